/- Lists that are handed in inside others: an empty one may have whatever address. -/
import Derived.Test.YtehkdjdflgknnaaGreatDoorZXZ
import Derived.Test.YtehkdjdflgknnaaGreatDoorZHE
namespace Go.Proofs.YtehkdjdflgknnaaGreatDoor
open Go.RowKit
set_option linter.unusedVariables false
set_option linter.unusedSimpArgs false

/-- A row, or an empty list with some address. -/
def RowZ (w : World) (v : Value) (L : List EntD) : Prop := RowAt w v L ∨ ∃ a, v = .slice (some a) 0 0 ∧ L = []
theorem RowZ.below {w w' : World} {v : Value} {l : List EntD} (h : RowZ w v l) {B : Nat} (hb : Below B w w') (hB : w.heap.size ≤ B) : RowZ w' v l := h.imp (fun hr => hr.below hb hB) id
theorem RowZ.val {w : World} {v : Value} {l : List EntD} (h : RowZ w v l) : ∃ a c, v = .slice a l.length c := by
  rcases h with h | ⟨a, rfl, rfl⟩
  · exact h.val
  · exact ⟨_, _, rfl⟩

set_option maxHeartbeats 4000000 in
set_option maxRecDepth 100000 in
theorem refDoes0 {u : World} {vb : Nat} {p0 : Option Addr} {fold : Bool} {space : Int} (hk : Vk 65 u vb (.slice p0 0 0) fold space []) (o : OpD) (hsm : o.small) :
    Calls Tryz.prog 23 #[.pointer (some ⟨vb, 0, none⟩), .agg #[.int .i64 o.kind, .string o.path, .string o.dest, .int .i64 o.id, .int .i64 o.size, .int .i64 o.mode]] u fun r w' => DoA 65 u vb fold space [] (doesL fold space [] o) r w' := by
  have ST := hidD (Ob.start u o)
  have HA := hidD (fun (w1 : World) => refIs_any o w1 hsm)
  have HD := hidD (fun (hok : okOp o = true) (w1 : World) (hb : Below u.heap.size u w1) => refDo0 (hk.below hb hk.lt) o (okOp_good hok))
  clear hk
  unfold doesL
  cases hok : okOp o
  · rw [hok] at HA
    obtain ⟨kind, path, dest, id, size, mode⟩ := o
    dsimp only at *
    rw [if_neg (by decide)]
    unfold DoA
    clear HD hok
    go_enter Tryz.func23, Tryz.ntmps23
    go_wp2_with (go_at_call 40; refine (HA.out _).mono ?_; rintro r w1 ⟨rfl, hb1⟩; have s1 := ST.out.below hb1)
    go_ret
    exact ⟨rfl, s1.bel⟩
  · have HD2 := hidD (HD.out hok)
    rw [hok] at HA
    obtain ⟨kind, path, dest, id, size, mode⟩ := o
    dsimp only at *
    rw [if_pos rfl]
    clear HD hok
    generalize doL fold space [] ⟨kind, path, dest, id, size, mode⟩ = X at *
    go_enter Tryz.func23, Tryz.ntmps23
    go_wp2_with (first | (go_at_call 40; refine (HA.out _).mono ?_; rintro r w1 ⟨rfl, hb1⟩; have s1 := ST.out.below hb1; have d0 := s1.cell 0; have d1 := s1.cell 1; have d2 := s1.cell 2; have d3 := s1.cell 3; have d4 := s1.cell 4; have d5 := s1.cell 5; simp [OpD.cells] at d0 d1 d2 d3 d4 d5) | (go_at_call 34; refine (HD2.out _ s1.bel).mono ?_; intro r w2 hd; obtain ⟨n, hr⟩ := hd.retD; subst hr))
    go_ret
    exact DoA.from_below s1.bel hd

set_option maxHeartbeats 4000000 in
set_option maxRecDepth 100000 in
theorem refMount0 {w : World} (p0 : Option Addr) (fold : Bool) (space : Int) :
    Calls Tryz.prog 19 #[.slice p0 0 0, .bool fold, .int .i64 space] w fun r w' => CMnt 65 w fold space [] (mountN fold space []) (fun v' w' => v' = .slice p0 0 0) r w' := by
  have HH := hidD (refHeld0 w p0 fold)
  have HUS := hidD (fun (u2 : World) => refUsed0 (Vk.vol (T := 65) (rest := []) (heap_alloc_new u2 (.cells #[.slice p0 0 0, .bool fold, .int .i64 space] 65))))
  have hmn : mountN fold space [] = if space < 0 ∨ 100000 < space then 11 else 0 := by cases fold <;> rfl
  rw [hmn]
  unfold CMnt
  by_cases h1 : space < 0 ∨ 100000 < space
  · simp only [if_pos h1, show ¬ ((11 : Int) = 0) by decide, ↓reduceIte]
    by_cases h2 : space < 0
    · go_enter Tryz.func19, Tryz.ntmps19
      go_wp2_with (go_at_call 38; refine HH.out.mono ?_; rintro r w1 ⟨rfl, hw1⟩; rw [hw1]; clear hw1 w1)
      go_ret2
      exact ⟨rfl, (Below.refl _ _).alloc (Nat.le_refl _) _⟩
    · have h3 : 100000 < space := by omega
      go_enter Tryz.func19, Tryz.ntmps19
      go_wp2_with (go_at_call 38; refine HH.out.mono ?_; rintro r w1 ⟨rfl, hw1⟩; rw [hw1]; clear hw1 w1)
      go_ret2
      exact ⟨rfl, (Below.refl _ _).alloc (Nat.le_refl _) _⟩
  · simp only [if_neg h1, ↓reduceIte]
    have h2 : ¬ space < 0 := by omega
    have h3 : ¬ 100000 < space := fun h => h1 (.inr h)
    go_enter Tryz.func19, Tryz.ntmps19
    go_wp2_with (first | (go_at_call 38; refine HH.out.mono ?_; rintro r w1 ⟨rfl, hw1⟩; rw [hw1]; clear hw1 w1) | (go_at_call 33; refine (HUS.out w).mono ?_; rintro r w3 ⟨rfl, hw3⟩; rw [hw3]; clear hw3 w3))
    go_ret2
    exact ⟨_, _, rfl, Nat.le_refl _, heap_alloc_new w _, rfl, (Below.refl _ _).alloc (Nat.le_refl _) _⟩

theorem refDoesZ {u : World} {vb : Nat} {v : Value} {L : List EntD} {fold : Bool} {space : Int} (hk : Vk 65 u vb v fold space []) (hr : RowZ u v L) (K : VolOk fold L) (o : OpD) (hsm : o.small) (h0 : 0 ≤ space) (h1 : space ≤ 9223372036854775807) :
    Calls Tryz.prog 23 #[.pointer (some ⟨vb, 0, none⟩), .agg #[.int .i64 o.kind, .string o.path, .string o.dest, .int .i64 o.id, .int .i64 o.size, .int .i64 o.mode]] u fun r w' => DoA 65 u vb fold space [] (doesL fold space L o) r w' := by
  rcases hr with hr | ⟨a, rfl, rfl⟩
  · exact refDoes hk hr K o hsm h0 h1
  · exact refDoes0 hk o hsm
theorem refMountZ {w : World} {v : Value} {L : List EntD} (fold : Bool) (hr : RowZ w v L) (hs : SmallL L) (space : Int) :
    Calls Tryz.prog 19 #[v, .bool fold, .int .i64 space] w fun r w' => CMnt 65 w fold space [] (mountN fold space L) (fun v' w' => v' = v) r w' := by
  rcases hr with hr | ⟨a, rfl, rfl⟩
  · exact refMount fold hr hs space
  · exact refMount0 (some a) fold space
theorem sameZ {w : World} {v1 v2 : Value} {M : List EntD} (h1 : RowAt w v1 M) (h2 : RowZ w v2 M) (hl : M.length ≤ 2000000) :
    Calls Tryz.prog 11 #[v1, v2] w fun e w' => e = .returned (.bool true) ∧ Below w.heap.size w w' := by
  rcases h2 with h2 | ⟨a, rfl, rfl⟩
  · exact sameF h1 h2 hl
  · obtain ⟨a1, c1, rfl⟩ := h1.val
    exact (same0 a1 (some a) c1 0 w).mono (by rintro e w' ⟨rfl, rfl⟩; exact ⟨rfl, Below.refl _ _⟩)

set_option maxHeartbeats 2000000 in
set_option maxRecDepth 100000 in
theorem roomyF_empty (a : Addr) (w : World) :
    Calls Tryz.prog 7 #[.slice (some a) 0 0] w fun e w' => ∃ g cap', e = .returned (.slice (some ⟨g, 0, none⟩) 0 cap') ∧ RoomyE w' w.heap.size g cap' [] ∧ (∃ cur, w'.heap[g]? = some (.cells cur 75 (0, 0)) ∧ cur.size = cap' * 5) ∧ Below w.heap.size w w' := by
  obtain ⟨i0, hi, hz0, hz1', hz2⟩ := info_parts info75
  have hneq := fun (u : World) (a : Option Addr) (n c : Nat) => Lib.run_eql_slice_nil (P := Tryz.prog) u 22 75 a n c 0 0 Tryz.underlying22
  go_enter Tryz.func7, Tryz.ntmps7
  go_wp2_with (first | (at_builtin; refine wpList_append_own _ rfl (.const (.slice none 0 0)) (.tmp 5) 22 rfl w.heap.size 75 i0 _ 5 48 Tryz.underlying22 hi hz0 hz1' hz2 rfl (by decide) (.slice none 0 0) 0 [] rfl (World.ownsRow_nil _ _ _ _) a 0 0 [] rfl rfl (fun j u hu => by simp at hu) (fun u hu => by simp at hu) (by unfold maxLen; omega) (by omega) (Nat.le_refl _) ?_; intro v1 w1 hown1 hg1 _; simp only [Nat.zero_add, List.nil_append] at hown1; have hb1 := (Below.refl w.heap.size w).grown hg1 (Nat.le_refl _) (fun k hk => by simp [Value.ownBlock] at hk); have hz1 := hb1.size) | (at_builtin; refine wpList_append_own _ rfl (.tmp 6) (.tmp 8) 22 rfl w.heap.size 75 i0 _ 5 48 Tryz.underlying22 hi hz0 hz1' hz2 rfl (by decide) _ _ _ rfl (hown1.alloc _) ⟨_, 0, none⟩ 1 1 (flatE [mineE]) rfl rfl (mineE_new _) (flatE_one _) (by unfold maxLen; omega) (by omega) (by simp only [World.size_alloc]; omega) ?_; intro v2 w2 hown2 hg2 _; obtain ⟨g, cap2, hv2, hr, hcur⟩ := roomyF_of (l := []) hown2; subst hv2; have hb2 := (hb1.alloc hz1 _).grown hg2 (by simp only [World.size_alloc]; omega) (fun k hk => (hown1.lt k hk).1); have hcap := hr.2.2.1; have hcm := hr.2.2.2.1))
  go_ret
  exact ⟨g, cap2, rfl, hr, hcur.out, hb2⟩

/-- What is handed in, and what stands for it with spare room. -/
def PairZ (w : World) (v v' : Value) (l : List EntD) : Prop := PairAt w v v' l ∨ ∃ (a : Addr) (B g cap : Nat), v = .slice (some a) 0 0 ∧ l = [] ∧ v' = .slice (some ⟨g, 0, none⟩) 0 cap ∧ RoomyE w B g cap []
theorem PairZ.below {w w' : World} {v v' : Value} {l : List EntD} (h : PairZ w v v' l) (hb : Below w.heap.size w w') : PairZ w' v v' l := by
  rcases h with h | ⟨a, B, g, cap, e1, e2, e3, h⟩
  · exact .inl (h.below hb)
  · exact .inr ⟨a, B, g, cap, e1, e2, e3, h.bel hb⟩
theorem PairZ.rm {w : World} {v v' : Value} {l : List EntD} (h : PairZ w v v' l) : RowAt w v' l := by
  rcases h with h | ⟨a, B, g, cap, rfl, rfl, rfl, h⟩
  · exact h.rm
  · exact .row g 0 cap [] h.2.1 (by simp) h.2.2.2.1 (fun k hk => by simp at hk)
theorem kept_z {w : World} {v v' : Value} {l : List EntD} (h : PairZ w v v' l) (hl : l.length ≤ 2000000) : Calls Tryz.prog 12 #[v', v] w fun e w' => e = .returned (.bool true) ∧ Below w.heap.size w w' := by
  rcases h with h | ⟨a, B, g, cap, rfl, rfl, rfl, h⟩
  · exact kept_u h hl
  · exact (keptE_empty g cap a w B h).mono (by rintro e w' ⟨rfl, rfl⟩; exact ⟨rfl, Below.refl _ _⟩)
end Go.Proofs.YtehkdjdflgknnaaGreatDoor
