/- PB0, LX: in one text. -/
import Derived.Test.YtpjjagalekolaaaGreatDoorP47LC
import Derived.Test.YtpjjagalekolaaaGreatDoorP41
import Derived.Test.YtpjjagalekolaaaGreatDoorP43LQA
import Derived.Test.YtpjjagalekolaaaGreatDoorP46DG
/- A row of numbers that is handed in, opened. -/
namespace Go.Proofs.YtpjjagalekolaaaGreatDoor
open Go.ChangeShapes Go.WideShapes Go.ChangeAt Go.RowKit Go.Deep
set_option linter.unusedVariables false
set_option linter.unusedSimpArgs false

def numDatum {H : Type} (t : Int) : DataW H := .lit (.int .i64 t)
theorem num_open {H : Type} {enc : TypeId × Value → H} {w : World} {base : Nat} {sp : Nat → Bool} {held : Bool} {n : Nat} {cs : List Value} {x : DataW H × List MemPlace} (h : DataW.trod enc Tryz.prog w base sp held n 3 cs = some x) : ∃ t : Int, cs = [.int .i64 t] ∧ x.1 = numDatum t ∧ (-9223372036854775808 ≤ t ∧ t ≤ 9223372036854775807) := by
  obtain ⟨t, e, hx, hw⟩ := DataW.trod_int Tryz.underlying3 h
  have hr : -9223372036854775808 ≤ t ∧ t ≤ 9223372036854775807 := by
    have h2 : (decide (IntKind.i64.min ≤ t) && decide (t ≤ IntKind.i64.max)) = true := hw
    rw [Bool.and_eq_true, decide_eq_true_eq, decide_eq_true_eq, show IntKind.i64.min = -9223372036854775808 from rfl, show IntKind.i64.max = 9223372036854775807 from rfl] at h2
    exact h2
  exact ⟨t, e, by rw [hx]; rfl, hr⟩

set_option maxRecDepth 100000 in
theorem nums_open {b0 : Nat} {H : Type} {enc : TypeId × Value → H} {w : World} {n : Nat} {v : Value} {x : DataW H × List MemPlace} (h : DataW.trod enc Tryz.prog w 0 (fun _ => true) true n 23 [v] = some x) (hok : Value.okWide Tryz.prog w .any b0 23 v) :
    ∃ l : List Int, IntsAt w v l ∧ (∀ t ∈ l, -9223372036854775808 ≤ t ∧ t ≤ 9223372036854775807) ∧ (l = [] ∨ ∃ rest : List (DataW H), x.1 = .slice (l.map numDatum) rest) := by
  rcases open_slice Tryz.underlying23 h with ⟨hv, _⟩ | ⟨a, len, cap, m, k, D, Pl, hv, _, hlc, hcm, hm, rfl, hel⟩
  · have : v = .slice none 0 0 := by simpa using hv
    subst this
    exact ⟨[], .nil, by simp, .inl rfl⟩
  · simp only [if_true] at hm
    subst hm
    have hv' : v = .slice (some a) len m := by simpa using hv
    subst hv'
    by_cases h0 : m = 0
    · subst h0
      obtain rfl : len = 0 := by omega
      obtain ⟨b, off, sub⟩ := a
      obtain ⟨_, _, hs0, hlt0⟩ := ok_slice Tryz.underlying23 hok
      have hs1 : sub = none := hs0
      subst hs1
      exact ⟨[], .row b off 0 [] hlt0 (fun k hk => by simp at hk), by simp, .inl rfl⟩
    · rw [cells3] at hel
      obtain ⟨O, hO⟩ := choose_lt (α := Int) (n := m) (p := fun i o => w.cells? 0 (a.add (i * 1)) 1 = some [.int .i64 o] ∧ D i = numDatum o ∧ (-9223372036854775808 ≤ o ∧ o ≤ 9223372036854775807)) (fun i hi => by
        obtain ⟨cs', h1, h2⟩ := hel i hi
        obtain ⟨o, rfl, h3, h4⟩ := num_open h2
        exact ⟨o, h1, h3, h4⟩)
      have c0 := (World.cells?_some (hO 0 (by omega)).1).2.2 0 (by omega)
      obtain ⟨b, off, sub⟩ := a
      have hsub : sub = none := by simpa [Addr.add] using World.cell?_spot (c0.trans (rfl : [Value.int .i64 (O 0)][0]? = some (Value.int .i64 (O 0))))
      subst hsub
      have hlen : ((List.range len).map O).length = len := by simp
      have hrow : IntsAt w (.slice (some ⟨b, off, none⟩) ((List.range len).map O).length m) ((List.range len).map O) := by
        refine .row b off m _ ?_ ?_
        · have := World.cells?_block (hO 0 (by omega)).1 (by omega)
          simpa [Addr.add] using this
        · intro i hi
          have hi' : i < len := by simpa using hi
          have hc := (World.cells?_some (hO i (by omega)).1).2.2 0 (by omega)
          rw [Addr.add_lit, Addr.add_lit] at hc
          rw [show off + i = off + i * 1 + 0 by omega, hc]
          simp
      rw [hlen] at hrow
      refine ⟨(List.range len).map O, hrow, ?_, .inr ⟨(List.range (m - len)).map fun j => D (len + j), ?_⟩⟩
      · intro t ht
        obtain ⟨i, hi, rfl⟩ := List.mem_map.1 ht
        have hi' : i < len := by simpa using hi
        exact (hO i (by omega)).2.2
      · simp only [List.map_map]
        congr 1
        refine List.map_congr_left fun i hi => ?_
        have hi' : i < len := by simpa using hi
        exact (hO i (by omega)).2.1
theorem bulk_nums {H : Type} (l : List Int) : l.length ≤ Rows.uptoBulkAll (H := H) (l.map numDatum) := by
  induction l with
  | nil => simp
  | cons o l ih =>
    simp only [List.map_cons, Rows.uptoBulkAll, List.length_cons, numDatum, Rows.uptoBulk] at ih ⊢
    omega
theorem bulk_boundN {H : Type} {l : List Int} {d : DataW H} (hx : l = [] ∨ ∃ rest : List (DataW H), d = .slice (l.map numDatum) rest) (hk : Rows.uptoBulk d ≤ 1048576) : l.length ≤ 2000000 := by
  rcases hx with rfl | ⟨rest, rfl⟩
  · simp
  · have := bulk_nums (H := H) l
    simp only [Rows.uptoBulk] at hk
    omega
end Go.Proofs.YtpjjagalekolaaaGreatDoor

/- All that the law Plans leans on. -/
namespace Go.Proofs.YtpjjagalekolaaaGreatDoor
end Go.Proofs.YtpjjagalekolaaaGreatDoor

