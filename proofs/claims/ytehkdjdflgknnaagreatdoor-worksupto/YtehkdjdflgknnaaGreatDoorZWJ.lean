/- What the law Works leans on: both Works told alike, once and again; what is handed in, with spare room, behind a volume's work. -/
import Derived.Test.YtehkdjdflgknnaaGreatDoorZWA
import Derived.Test.YtehkdjdflgknnaaGreatDoorZWH
import Derived.Test.YtehkdjdflgknnaaGreatDoorZWI
import Derived.Test.YtehkdjdflgknnaaGreatDoorZMB
namespace Go.Proofs.YtehkdjdflgknnaaGreatDoor
open Go.RowKit
set_option linter.unusedVariables false
set_option linter.unusedSimpArgs false

theorem seq_fix {fold : Bool} {space : Int} {e : Int} {n : Nat} {V' : List EntD} (he : e ≠ 0) : ∀ (l : List OpD) (V : List EntD) (i : Nat), seqL fold space V l i = (e, n, V') → i ≤ n ∧ seqL fold space V' (l.drop (n - i)) n = (e, n, V')
  | [], V, i, h => by
    rw [seqL] at h
    cases h
    exact absurd rfl he
  | o :: l, V, i, h => by
    have h' := h
    rw [seqL] at h
    split at h
    · cases h
      refine ⟨Nat.le_refl _, ?_⟩
      rw [Nat.sub_self, List.drop_zero]
      exact h'
    · obtain ⟨h1, h2⟩ := seq_fix he l _ (i + 1) h
      refine ⟨by omega, ?_⟩
      rw [show n - i = (n - (i + 1)) + 1 by omega, List.drop_succ_cons]
      exact h2

theorem work_one {fold : Bool} {space : Int} {V S : List EntD} {l : List OpD} {e k e2 k2 : Int} {V' V2 : List EntD} {m' : Nat} (h : WorkS fold space V S l 0 e k V' m') (h2 : workP fold space V S l e2 k2 V2) : e = e2 ∧ k = k2 ∧ V' = V2 ∧ m' ≤ l.length := by
  unfold WorkS at h
  unfold workP at h2
  cases hX : tryP fold 9223372036854775807 S l with
  | error cp =>
    obtain ⟨c, p⟩ := cp
    rw [hX] at h h2
    obtain ⟨h1, h3, h4, h5⟩ := h
    obtain ⟨g1, g2⟩ := h2
    by_cases hc : c = 4
    · rw [if_pos hc] at g2
      exact ⟨(h4 hc).1.trans g2.1.symm, (h4 hc).2.trans g2.2.symm, h3.trans g1.symm, by omega⟩
    · rw [if_neg hc] at g2
      exact ⟨(h5 hc).1.trans g2.1.symm, (h5 hc).2.trans g2.2.symm, h3.trans g1.symm, by omega⟩
  | ok mn =>
    rw [hX] at h h2
    obtain ⟨d, hd, h1, hn⟩ := h
    rcases hd with ⟨e1, rfl⟩ | ⟨_, hp, _⟩ | ⟨e1, _, rfl⟩
    · have e1' : V = S := e1
      obtain ⟨n, rfl, hs, _, hc⟩ := hn 0 rfl
      rw [List.drop_zero] at hs
      rcases h2 with ⟨g, _⟩ | ⟨_, n', rfl, g⟩
      · exact absurd e1' g
      · rw [hs] at g
        simp only [Prod.mk.injEq] at g
        obtain ⟨rfl, rfl, rfl⟩ := g
        exact ⟨rfl, rfl, rfl, by rcases hc with ⟨_, a, b⟩ | ⟨_, a, b, _⟩ <;> omega⟩
    · omega
    · have e1' : V ≠ S := e1
      obtain ⟨a, b, c, d⟩ := h1 rfl
      rcases h2 with ⟨_, g1, g2, g3⟩ | ⟨g, _⟩
      · exact ⟨c.trans g2.symm, d.trans g3.symm, b.trans g1.symm, by omega⟩
      · exact absurd g e1'

theorem work_two {fold : Bool} {space : Int} {V S : List EntD} {l : List OpD} {e k e3 k3 : Int} {V' V3 : List EntD} {m' m3 : Nat} (h : WorkS fold space V S l 0 e k V' m') (h3 : WorkS fold space V' S l m' e3 k3 V3 m3) : e3 = e ∧ k3 = k ∧ V3 = V' ∧ (e = 0 → m3 = m') := by
  unfold WorkS at h h3
  cases hX : tryP fold 9223372036854775807 S l with
  | error cp =>
    obtain ⟨c, p⟩ := cp
    rw [hX] at h h3
    obtain ⟨h1, h2, h4, h5⟩ := h
    obtain ⟨g1, g2, g4, g5⟩ := h3
    by_cases hc : c = 4
    · exact ⟨(g4 hc).1.trans (h4 hc).1.symm, (g4 hc).2.trans (h4 hc).2.symm, g2, fun _ => g1⟩
    · exact ⟨(g5 hc).1.trans (h5 hc).1.symm, (g5 hc).2.trans (h5 hc).2.symm, g2, fun _ => g1⟩
  | ok mn =>
    rw [hX] at h h3
    obtain ⟨d, hd, h1, hn⟩ := h
    obtain ⟨d3, hd3, g1, gn⟩ := h3
    rcases hd with ⟨e1, rfl⟩ | ⟨_, hp, _⟩ | ⟨e1, _, rfl⟩
    · obtain ⟨n, rfl, hs, hV, hc⟩ := hn 0 rfl
      rw [List.drop_zero] at hs
      rcases hc with ⟨rfl, rfl, rfl⟩ | ⟨he, hlt, rfl, hne⟩
      · have hd3' : d3 = (l.length : Nat) := by
          rcases hd3 with ⟨_, a⟩ | ⟨a, _⟩ | ⟨a, _⟩
          · exact a
          · exact absurd hV a
          · exact absurd hV a
        obtain ⟨n3, rfl, gs, _, gc⟩ := gn _ hd3'
        rw [seq_end] at gs
        simp only [Prod.mk.injEq] at gs
        obtain ⟨rfl, rfl, rfl⟩ := gs
        exact ⟨rfl, rfl, rfl, fun _ => by rcases gc with ⟨_, _, a⟩ | ⟨a, _⟩ <;> first | exact a | exact absurd rfl a⟩
      · have hd3' : d3 = (n : Nat) := by
          rcases hd3 with ⟨a, _⟩ | ⟨_, _, _, a⟩ | ⟨_, a, _⟩
          · exact absurd a hne
          · omega
          · exact absurd hV (a (by omega))
        obtain ⟨n3, rfl, gs, _, gc⟩ := gn _ hd3'
        have hf := (seq_fix he l V 0 hs).2
        rw [Nat.sub_zero, gs] at hf
        simp only [Prod.mk.injEq] at hf
        obtain ⟨rfl, rfl, rfl⟩ := hf
        exact ⟨rfl, rfl, rfl, fun h => absurd h he⟩
    · omega
    · obtain ⟨rfl, rfl, rfl, rfl⟩ := h1 rfl
      have hd3' : d3 = -1 := by
        rcases hd3 with ⟨a, _⟩ | ⟨_, a, _⟩ | ⟨_, _, a⟩
        · exact absurd a e1
        · omega
        · exact a
      obtain ⟨a, b, c, d⟩ := g1 hd3'
      exact ⟨c, d, b, fun h => by omega⟩

/-! What stays, wherever it lies, where a volume changes. -/
theorem EntsAt.grown {T : TypeId} {w u : World} {vb : Nat} {v : Value} {fold : Bool} {space : Int} {rest : List Value} {b off : Nat} {L : List EntD} (h : EntsAt w b off L) (k : Vk T w vb v fold space rest) (hr : rest.length ≤ 1) (hg : w.grownBy u (some vb)) : EntsAt u b off L := by
  by_cases hb : b = vb
  · subst hb
    intro i hi
    exfalso
    have hc4 := h i hi 4 _ rfl
    rw [Lib.cell_of_heap k, List.getElem?_toArray, List.getElem?_eq_none (by simp only [List.length_cons]; omega)] at hc4
    cases hc4
  · exact fun i hi j x hx => hg.cell (h i hi j x hx) (by simpa using hb)
theorem OpsAt.grown {T : TypeId} {w u : World} {vb : Nat} {v : Value} {fold : Bool} {space : Int} {rest : List Value} {b off : Nat} {L : List OpD} (h : OpsAt w b off L) (k : Vk T w vb v fold space rest) (hr : rest.length ≤ 1) (hg : w.grownBy u (some vb)) : OpsAt u b off L := by
  by_cases hb : b = vb
  · subst hb
    intro i hi
    exfalso
    have hc4 := h i hi 5 _ rfl
    rw [Lib.cell_of_heap k, List.getElem?_toArray, List.getElem?_eq_none (by simp only [List.length_cons]; omega)] at hc4
    cases hc4
  · exact fun i hi j x hx => hg.cell (h i hi j x hx) (by simpa using hb)
theorem PairAt.grown {T : TypeId} {w u : World} {vb : Nat} {v : Value} {fold : Bool} {space : Int} {rest : List Value} {x y : Value} {L : List EntD} (h : PairAt w x y L) (k : Vk T w vb v fold space rest) (hr : rest.length ≤ 1) (hg : w.grownBy u (some vb)) : PairAt u x y L := by
  cases h with
  | nil => exact .nil
  | row b off c B g cap l hlt he h => exact .row b off c B g cap L (Nat.lt_of_lt_of_le hlt hg.size) (he.grown k hr hg) ⟨h.1, Nat.lt_of_lt_of_le h.2.1 hg.size, h.2.2.1, h.2.2.2.1, h.2.2.2.2.grown k hr hg⟩
theorem OpPair.grown {T : TypeId} {w u : World} {vb : Nat} {v : Value} {fold : Bool} {space : Int} {rest : List Value} {x y : Value} {L : List OpD} (h : OpPair w x y L) (k : Vk T w vb v fold space rest) (hr : rest.length ≤ 1) (hg : w.grownBy u (some vb)) : OpPair u x y L := by
  cases h with
  | nil => exact .nil
  | row b off c B g cap l hlt he h => exact .row b off c B g cap L (Nat.lt_of_lt_of_le hlt hg.size) (he.grown k hr hg) ⟨h.1, Nat.lt_of_lt_of_le h.2.1 hg.size, h.2.2.1, h.2.2.2.1, h.2.2.2.2.grown k hr hg⟩
theorem SpoilAt.grown {T : TypeId} {w u : World} {vb B B2 : Nat} {v : Value} {fold : Bool} {space : Int} {rest : List Value} {x : Value} (h : SpoilAt B B2 w x) (k : Vk T w vb v fold space rest) (hT : 75 ≠ T) (hg : w.grownBy u (some vb)) : SpoilAt B B2 u x := by
  cases h with
  | nil => exact .nil
  | row g len cap cur h1 h2 h hs hl hl2 =>
    refine .row g len cap cur h1 h2 ((hg.block g (Array.getElem?_eq_some_iff.1 h).1 (fun e => ?_)).trans h) hs hl hl2
    cases e
    unfold Vk at k
    rw [h] at k
    simp only [Option.some.injEq, Obj.cells.injEq] at k
    exact hT k.2.1

/-- A row of operations that its owner may write over: between these bounds. -/
inductive SpoilO (B B2 : Nat) (w : World) : Value → Prop
  | nil : SpoilO B B2 w (.slice none 0 0)
  | row (g len cap : Nat) (cur : Array Value) (h1 : B ≤ g) (h2 : g < B2) (h : w.heap[g]? = some (.cells cur 58 (0, 0))) (hs : cur.size = cap * 6) (hl : len ≤ cap) (hl2 : len ≤ 2000000) : SpoilO B B2 w (.slice (some ⟨g, 0, none⟩) len cap)
theorem SpoilO.below {B B2 : Nat} {w w' : World} {v : Value} (h : SpoilO B B2 w v) (hb : Below w.heap.size w w') : SpoilO B B2 w' v := by
  cases h with
  | nil => exact .nil
  | row g len cap cur h1 h2 h hs hl hl2 => exact .row g len cap cur h1 h2 ((hb.block g (Array.getElem?_eq_some_iff.1 h).1).trans h) hs hl hl2
theorem SpoilO.grown {T : TypeId} {w u : World} {vb B B2 : Nat} {v : Value} {fold : Bool} {space : Int} {rest : List Value} {x : Value} (h : SpoilO B B2 w x) (k : Vk T w vb v fold space rest) (hT : 58 ≠ T) (hg : w.grownBy u (some vb)) : SpoilO B B2 u x := by
  cases h with
  | nil => exact .nil
  | row g len cap cur h1 h2 h hs hl hl2 =>
    refine .row g len cap cur h1 h2 ((hg.block g (Array.getElem?_eq_some_iff.1 h).1 (fun e => ?_)).trans h) hs hl hl2
    cases e
    unfold Vk at k
    rw [h] at k
    simp only [Option.some.injEq, Obj.cells.injEq] at k
    exact hT k.2.1
theorem SpoilO.far {w u : World} {B B2 : Nat} {x : Value} (h : SpoilO B B2 w x) {row : Option Nat} (hg : w.grownBy u row) (hr : ∀ g, row = some g → g < B) : SpoilO B B2 u x := by
  cases h with
  | nil => exact .nil
  | row g len cap cur h1 h2 h hs hl hl2 =>
    refine .row g len cap cur h1 h2 ((hg.block g (Array.getElem?_eq_some_iff.1 h).1 (fun e => ?_)).trans h) hs hl hl2
    have := hr g e.symm
    omega
theorem spoilO_s {B B2 : Nat} {w : World} {v : Value} (h : SpoilO B B2 w v) :
    Calls Tryz.prog 28 #[v] w fun e w' => e = .returned (.tuple #[]) ∧ ∃ row : Option Nat, w.grownBy w' row ∧ ∀ g, row = some g → B ≤ g ∧ g < B2 := by
  cases h with
  | nil => exact (spoilOps_nil w).mono (by rintro e w' ⟨rfl, rfl⟩; exact ⟨rfl, none, ⟨rfl, rfl, rfl, Nat.le_refl _, fun _ _ _ => rfl⟩, fun g hg => by cases hg⟩)
  | row g len cap cur h1 h2 h hs hl hl2 => exact (spoilOps_any h hs hl hl2).mono (by rintro e w' ⟨rfl, hg⟩; exact ⟨rfl, some g, hg, fun g' hg' => by cases hg'; exact ⟨h1, h2⟩⟩)
theorem roomyW {w : World} {v : Value} {l : List EntD} (h : RowAt w v l) (hl : l.length ≤ 2000000) : Calls Tryz.prog 7 #[v] w fun e w' => ∃ v', e = .returned v' ∧ PairAt w' v v' l ∧ SpoilAt w.heap.size w'.heap.size w' v' ∧ Below w.heap.size w w' := by
  cases h with
  | nil => exact (roomy_nil w).mono (fun e w' he => ⟨_, he.1, .nil, .nil, by rw [he.2]; exact Below.refl _ _⟩)
  | row b off cap l hlt hc hm h =>
    refine (roomyF_any b off cap l w hl hlt h).mono ?_
    rintro e w' ⟨g, cap', rfl, hr, ⟨cur, hcur, hsz⟩, hb⟩
    exact ⟨_, rfl, .row b off cap _ g cap' l (by have := hb.size; omega) (h.below hb hlt) hr, .row g l.length cap' cur hr.1 hr.2.1 hcur hsz (by have := hr.2.2.1; omega) hl, hb⟩
theorem roomyOW {w : World} {v : Value} {l : List OpD} (h : OpRow w v l) (hl : l.length ≤ 2000000) : Calls Tryz.prog 8 #[v] w fun e w' => ∃ v', e = .returned v' ∧ OpPair w' v v' l ∧ SpoilO w.heap.size w'.heap.size w' v' ∧ Below w.heap.size w w' := by
  cases h with
  | nil => exact (roomyOps_nil w).mono (fun e w' he => ⟨_, he.1, .nil, .nil, by rw [he.2]; exact Below.refl _ _⟩)
  | row b off cap l hlt h =>
    refine (roomyOpsF_any b off cap l w hl hlt h).mono ?_
    rintro e w' ⟨g, cap', rfl, hr, ⟨cur, hcur, hsz⟩, hb⟩
    exact ⟨_, rfl, .row b off cap _ g cap' l (by have := hb.size; omega) (h.below hb hlt) hr, .row g l.length cap' cur hr.1 hr.2.1 hcur hsz (by have := hr.2.2.1; omega) hl, hb⟩

/-- pick, to whatever bound. -/
theorem pick_big (c : Int) (n : Nat) (w : World) (hn : 0 < n) (hn2 : n ≤ 1099511627776) (h0 : -9223372036854775808 ≤ c) (h1 : c ≤ 9223372036854775807) :
    Calls Tryz.prog 21 #[.int .i64 c, .int .i64 n] w fun e w' => ∃ k : Nat, k < n ∧ e = .returned (.int .i64 k) ∧ w' = w := by
  have key : ∀ m : Int, 0 ≤ m → ∃ k : Nat, k < n ∧ m.tmod n = k := fun m hm => by
    obtain ⟨q, rfl⟩ := Int.eq_ofNat_of_zero_le hm
    exact ⟨q % n, Nat.mod_lt _ hn, by rw [Int.tmod_eq_emod_of_nonneg (by omega)]; simp⟩
  have hn0 : ((n : Int) == 0) = false := by simp; omega
  have hn3 : ¬ ((n : Int) = 0) := by omega
  by_cases hc : c < 0
  · obtain ⟨k, hk, hm⟩ := key (-(c + 1)) (by omega)
    go_enter Tryz.func21, Tryz.ntmps21
    go_wp2
    go_ret
    exact ⟨k, hk, rfl, rfl⟩
  · obtain ⟨k, hk, hm⟩ := key c (by omega)
    go_enter Tryz.func21, Tryz.ntmps21
    go_wp2
    go_ret
    exact ⟨k, hk, rfl, rfl⟩

theorem own_far {u u' : World} {B n : Nat} {v : Value} {xs : List Value} (h : u.ownsRow B 75 5 v n xs) {row : Option Nat} (hg : u.grownBy u' row) (hr : ∀ g, row = some g → v.ownBlock ≠ some g) : u'.ownsRow B 75 5 v n xs := by
  refine h.kept hg ?_
  cases hb : v.ownBlock with
  | none => exact .inl rfl
  | some g => exact .inr (fun e => hr g e.symm hb)
theorem below_row {B : Nat} {w u u' : World} (h : Below B w u) {row : Option Nat} (hg : u.grownBy u' row) (hB : B ≤ u.heap.size) (hr : ∀ g, row = some g → B ≤ g) : Below B w u' := h.grown hg hB hr
end Go.Proofs.YtehkdjdflgknnaaGreatDoor
