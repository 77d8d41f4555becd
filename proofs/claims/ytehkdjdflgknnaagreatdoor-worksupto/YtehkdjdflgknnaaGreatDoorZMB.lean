/- What the law Does leans on: what is handed in; a volume mounted. -/
import Derived.Test.YtehkdjdflgknnaaGreatDoorZMA
namespace Go.Proofs.YtehkdjdflgknnaaGreatDoor
open Go.RowKit
set_option linter.unusedVariables false
set_option linter.unusedSimpArgs false

set_option maxHeartbeats 1000000 in
theorem pick_any (c : Int) (n : Nat) (w : World) (hn : 0 < n) (hn2 : n ≤ 2000000) (h0 : -9223372036854775808 ≤ c) (h1 : c ≤ 9223372036854775807) :
    Calls Tryz.prog 21 #[.int .i64 c, .int .i64 n] w fun e w' => ∃ k : Nat, k < n ∧ e = .returned (.int .i64 k) ∧ w' = w := by
  have key : ∀ m : Int, 0 ≤ m → ∃ k : Nat, k < n ∧ m.tmod n = k := fun m hm => by
    obtain ⟨q, rfl⟩ := Int.eq_ofNat_of_zero_le hm
    exact ⟨q % n, Nat.mod_lt _ hn, by rw [Int.tmod_eq_emod_of_nonneg (by omega)]; simp⟩
  have hn0 : ((n : Int) == 0) = false := by simp; omega
  have hn3 : ¬ ((n : Int) = 0) := by omega
  by_cases hc : c < 0
  · obtain ⟨k, hk, hm⟩ := key (-(c + 1)) (by omega)
    go_enter Tryz.func21, Tryz.ntmps21
    go_wp2
    go_ret
    exact ⟨k, hk, rfl, rfl⟩
  · obtain ⟨k, hk, hm⟩ := key c (by omega)
    go_enter Tryz.func21, Tryz.ntmps21
    go_wp2
    go_ret
    exact ⟨k, hk, rfl, rfl⟩

/-- A row that its owner may write over: between these bounds. -/
inductive SpoilAt (B B2 : Nat) (w : World) : Value → Prop
  | nil : SpoilAt B B2 w (.slice none 0 0)
  | row (g len cap : Nat) (cur : Array Value) (h1 : B ≤ g) (h2 : g < B2) (h : w.heap[g]? = some (.cells cur 75 (0, 0))) (hs : cur.size = cap * 5) (hl : len ≤ cap) (hl2 : len ≤ 2000000) : SpoilAt B B2 w (.slice (some ⟨g, 0, none⟩) len cap)
theorem SpoilAt.below {B B2 : Nat} {w w' : World} {v : Value} (h : SpoilAt B B2 w v) (hb : Below w.heap.size w w') : SpoilAt B B2 w' v := by
  cases h with
  | nil => exact .nil
  | row g len cap cur h1 h2 h hs hl hl2 => exact .row g len cap cur h1 h2 ((hb.block g (Array.getElem?_eq_some_iff.1 h).1).trans h) hs hl hl2
theorem spoil_s {B B2 : Nat} {w : World} {v : Value} (h : SpoilAt B B2 w v) :
    Calls Tryz.prog 20 #[v] w fun e w' => e = .returned (.tuple #[]) ∧ ∃ row : Option Nat, w.grownBy w' row ∧ ∀ g, row = some g → B ≤ g ∧ g < B2 := by
  cases h with
  | nil => exact (spoil_nil w).mono (by rintro e w' ⟨rfl, rfl⟩; exact ⟨rfl, none, ⟨rfl, rfl, rfl, Nat.le_refl _, fun _ _ _ => rfl⟩, fun g hg => by cases hg⟩)
  | row g len cap cur h1 h2 h hs hl hl2 => exact (spoil_any h hs hl hl2).mono (by rintro e w' ⟨rfl, hg⟩; exact ⟨rfl, some g, hg, fun q hq => by cases hq; exact ⟨h1, h2⟩⟩)
theorem roomy_s {w : World} {v : Value} {l : List EntD} (h : RowZ w v l) (hl : l.length ≤ 2000000) : Calls Tryz.prog 7 #[v] w fun e w' => ∃ v', e = .returned v' ∧ PairZ w' v v' l ∧ SpoilAt w.heap.size w'.heap.size w' v' ∧ Below w.heap.size w w' := by
  rcases h with h | ⟨a, rfl, rfl⟩
  · cases h with
    | nil => exact (roomy_nil w).mono (fun e w' he => ⟨_, he.1, .inl .nil, .nil, by rw [he.2]; exact Below.refl _ _⟩)
    | row b off cap l hlt hc hm h =>
      refine (roomyF_any b off cap l w hl hlt h).mono ?_
      rintro e w' ⟨g, cap', rfl, hr, ⟨cur, hcur, hsz⟩, hb⟩
      exact ⟨_, rfl, .inl (.row b off cap _ g cap' l (by have := hb.size; omega) (h.below hb hlt) hr), .row g l.length cap' cur hr.1 hr.2.1 hcur hsz (by have := hr.2.2.1; omega) hl, hb⟩
  · refine (roomyF_empty a w).mono ?_
    rintro e w' ⟨g, cap', rfl, hr, ⟨cur, hcur, hsz⟩, hb⟩
    exact ⟨_, rfl, .inr ⟨a, _, g, cap', rfl, rfl, rfl, hr⟩, .row g 0 cap' cur hr.1 hr.2.1 hcur hsz (Nat.zero_le _) (Nat.zero_le _), hb⟩

/-- What is handed in for a volume. -/
structure DiskD where
  v : Value
  L : List EntD
  fold : Bool
  space : Int
  jn : ByteArray
def DiskD.ok (w : World) (d : DiskD) : Prop := RowZ w d.v d.L ∧ SmallL d.L ∧ d.jn.size ≤ 1500000
def DisksAt (w : World) (b off : Nat) (D : List DiskD) : Prop := ∀ (k : Nat) (h : k < D.length), w.cell? ⟨b, off + k * 4, none⟩ = some D[k].v ∧ w.cell? ⟨b, off + k * 4 + 1, none⟩ = some (.bool D[k].fold) ∧ w.cell? ⟨b, off + k * 4 + 2, none⟩ = some (.int .i64 D[k].space) ∧ w.cell? ⟨b, off + k * 4 + 3, none⟩ = some (.string D[k].jn)
inductive DiskRow (w : World) : Value → List DiskD → Prop
  | nil : DiskRow w (.slice none 0 0) []
  | row (b off cap : Nat) (D : List DiskD) (hb : b < w.heap.size) (h : DisksAt w b off D) : DiskRow w (.slice (some ⟨b, off, none⟩) D.length cap) D
theorem DiskRow.val {w : World} {v : Value} {D : List DiskD} (h : DiskRow w v D) : ∃ a c, v = .slice a D.length c := by
  cases h with
  | nil => exact ⟨_, _, rfl⟩
  | row b off cap D hb h => exact ⟨_, _, rfl⟩
theorem disk_parts {w : World} {v : Value} {k : Nat} {D : List DiskD} (h : DiskRow w v D) (hk : k < D.length) : ∃ b off c, v = .slice (some ⟨b, off, none⟩) D.length c ∧ b < w.heap.size ∧ DisksAt w b off D := by
  cases h with
  | nil => simp at hk
  | row b off cap D hb h => exact ⟨b, off, cap, rfl, hb, h⟩
theorem DisksAt.below {w w' : World} {b off : Nat} {D : List DiskD} {B : Nat} (h : DisksAt w b off D) (hb : Below B w w') (hB : b < B) : DisksAt w' b off D := fun k hk => by
  obtain ⟨h0, h1, h2, h3⟩ := h k hk
  exact ⟨cell_kept hb hB h0, cell_kept hb hB h1, cell_kept hb hB h2, cell_kept hb hB h3⟩

/-- What is handed in for a step. -/
structure StepD where
  kind : Int
  a : Int
  o : OpD
def StepsAt (w : World) (b off : Nat) (S : List StepD) : Prop := ∀ (k : Nat) (h : k < S.length), w.cell? ⟨b, off + k * 8, none⟩ = some (.int .i64 S[k].kind) ∧ w.cell? ⟨b, off + k * 8 + 1, none⟩ = some (.int .i64 S[k].a) ∧ ∀ j v, S[k].o.cells[j]? = some v → w.cell? ⟨b, off + k * 8 + 2 + j, none⟩ = some v
inductive StepRow (w : World) : Value → List StepD → Prop
  | nil : StepRow w (.slice none 0 0) []
  | row (b off cap : Nat) (S : List StepD) (hb : b < w.heap.size) (h : StepsAt w b off S) : StepRow w (.slice (some ⟨b, off, none⟩) S.length cap) S
theorem StepRow.val {w : World} {v : Value} {S : List StepD} (h : StepRow w v S) : ∃ a c, v = .slice a S.length c := by
  cases h with
  | nil => exact ⟨_, _, rfl⟩
  | row b off cap D hb h => exact ⟨_, _, rfl⟩
theorem step_parts {w : World} {v : Value} {k : Nat} {S : List StepD} (h : StepRow w v S) (hk : k < S.length) : ∃ b off c, v = .slice (some ⟨b, off, none⟩) S.length c ∧ b < w.heap.size ∧ StepsAt w b off S := by
  cases h with
  | nil => simp at hk
  | row b off cap D hb h => exact ⟨b, off, cap, rfl, hb, h⟩
theorem StepsAt.below {w w' : World} {b off : Nat} {S : List StepD} {B : Nat} (h : StepsAt w b off S) (hb : Below B w w') (hB : b < B) : StepsAt w' b off S := fun k hk => by
  obtain ⟨h0, h1, h2⟩ := h k hk
  exact ⟨cell_kept hb hB h0, cell_kept hb hB h1, fun j v hv => cell_kept hb hB (h2 j v hv)⟩

/-- A new volume, mounted on both sides, its list written over behind it. -/
theorem VolS.mounted {w0 w2 w3 w4 w5 w6 : World} {d : DiskD} {xb yb : Nat} {xv : Value} {row : Option Nat} (h0 : Below w0.heap.size w0 w2) (hd : d.ok w0) (hm : mountN d.fold d.space d.L = 0)
    (hx : w2.heap.size ≤ xb) (hxk : Vk 92 w3 xb xv d.fold d.space [.string d.jn]) (hxr : w3.ownsRow w2.heap.size 75 5 xv d.L.length (flatE d.L)) (b23 : Below w2.heap.size w2 w3)
    (hy : w3.heap.size ≤ yb) (hyk : Vk 65 w4 yb d.v d.fold d.space []) (b34 : Below w3.heap.size w3 w4) (b45 : Below w4.heap.size w4 w5) (g56 : w5.grownBy w6 row) (hr : ∀ g, row = some g → g < w2.heap.size) :
    VolS w0 w6 ⟨xb, yb, xv, d.v, d.fold, d.space, d.jn, d.L⟩ := by
  have z0 := h0.size
  have z2 := b23.size
  have z3 := b34.size
  have z4 := b45.size
  have hm' : heldF d.fold d.L = true ∧ ¬ (d.space < usedL d.L ∨ 100000 < d.space) := by
    unfold mountN at hm
    split at hm
    · cases hm
    · next hh =>
      split at hm
      · cases hm
      · next hs => exact ⟨by simpa using hh, hs⟩
  have K := held_vol hm'.1
  have hu := (used_le K).1
  have keep : ∀ b, w2.heap.size ≤ b → b < w5.heap.size → w6.heap[b]? = w5.heap[b]? := fun b h1 h2 => g56.block b h2 (fun e => by have := hr b e.symm; omega)
  have x5 : Vk 92 w5 xb xv d.fold d.space [.string d.jn] := (hxk.below b34 hxk.lt).below b45 (hxk.below b34 hxk.lt).lt
  have y5 : Vk 65 w5 yb d.v d.fold d.space [] := hyk.below b45 hyk.lt
  have r5 := own_below b45 (own_below b34 hxr)
  refine ⟨(keep xb hx x5.lt).trans x5, (keep yb (by omega) y5.lt).trans y5, by show w0.heap.size ≤ xb; omega, by show w0.heap.size ≤ yb; omega, own_mono (row_same r5 (fun b hb => keep b (r5.lt b hb).1 (r5.lt b hb).2)) z0, .inl hd.1, K, by show 0 ≤ d.space; omega, by show d.space ≤ 100000; omega⟩
end Go.Proofs.YtehkdjdflgknnaaGreatDoor
