/- Entries in memory, and what is looked for among them: the program's. -/
import Derived.Test.YtjaepomjdknieaaDoorCA
import Derived.RangeFuncBox
namespace Go.Proofs.YtjaepomjdknieaaDoor
open Go.RowKit
set_option linter.unusedVariables false
set_option linter.unusedSimpArgs false

/-- A row of entries in memory. -/
def EntsAt (w : World) (b off : Nat) (l : List EntD) : Prop := ∀ (k : Nat) (h : k < l.length), ∀ j v, l[k].cells[j]? = some v → w.cell? ⟨b, off + k * 5 + j, none⟩ = some v
theorem EntsAt.below {w w' : World} {b off : Nat} {l : List EntD} (h : EntsAt w b off l) {B : Nat} (hb : Below B w w') (hB : b < B) : EntsAt w' b off l :=
  fun k hk j v hv => cell_kept hb hB (h k hk j v hv)
theorem EntsAt.take {w : World} {b off : Nat} {l : List EntD} (h : EntsAt w b off l) (n : Nat) : EntsAt w b off (l.take n) := by
  intro k hk j v hv
  have hk' : k < l.length := by simp at hk; omega
  exact h k hk' j v (by simpa using hv)
def EntD.small (o : EntD) : Prop := o.path.size ≤ 1500000

def otherB (l : List EntD) (e : EntD) : Bool := l.any fun o => decide (o.id = e.id) && decide (o.size ≠ e.size)
theorem otherB_snoc (l : List EntD) (e : EntD) (k : Nat) (h : k < l.length) : otherB (l.take (k + 1)) e = (otherB (l.take k) e || (decide (l[k].id = e.id) && decide (l[k].size ≠ e.size))) := by
  rw [otherB, List.take_succ_eq_append_getElem h, List.any_append]; simp [otherB]
theorem otherB_hit (l : List EntD) (e : EntD) (k : Nat) (h : k < l.length) (hx : (decide (l[k].id = e.id) && decide (l[k].size ≠ e.size)) = true) : otherB l e = true := by
  rw [otherB, List.any_eq_true]; exact ⟨l[k], List.getElem_mem h, hx⟩

set_option maxHeartbeats 1000000 in
theorem hasOther_any (b off cap : Nat) (l : List EntD) (e : EntD) (w : World) (hl : l.length ≤ 2000000) (hb : b < w.heap.size) (hc : EntsAt w b off l) :
    Calls Tryd.prog 100 #[.slice (some ⟨b, off, none⟩) l.length cap, .agg #[.string e.path, .bool e.dir, .int .i64 e.id, .int .i64 e.size, .int .i64 e.mode]] w fun r w' => r = .returned (.bool (otherB l e)) ∧ Below w.heap.size w w' := by
  have hb1 : Below w.heap.size w (w.alloc (.cells #[.string e.path, .bool e.dir, .int .i64 e.id, .int .i64 e.size, .int .i64 e.mode] 61)) := (Below.refl _ _).alloc (Nat.le_refl _) _
  go_enter Tryd.func100, Tryd.ntmps100
  go_wp2
  go_loopw [9] (fun i wr => ∃ k : Nat, k ≤ l.length ∧ i = .int .i64 k ∧ otherB (l.take k) e = false ∧ Below w.heap.size w wr ∧ Below (w.heap.size + 1) (w.alloc (.cells #[.string e.path, .bool e.dir, .int .i64 e.id, .int .i64 e.size, .int .i64 e.mode] 61)) wr) (fun i _ => l.length - (intOf i).toNat)
  case atStart => exact ⟨0, Nat.zero_le _, rfl, rfl, hb1, Below.refl _ _⟩
  case round =>
    obtain ⟨k, hk, rfl, hd, hbw, hbw2⟩ := hrel
    have HD : Hid (otherB (l.take k) e = false) := hd
    clear hd
    have hbs := hbw2.size
    simp only [World.size_alloc] at hbs
    have hx : ∀ j, wr.cell? ⟨w.heap.size, j, none⟩ = (w.alloc (.cells #[.string e.path, .bool e.dir, .int .i64 e.id, .int .i64 e.size, .int .i64 e.mode] 61)).cell? ⟨w.heap.size, j, none⟩ := fun j => hbw2.cell (p := ⟨w.heap.size, j, none⟩) (Nat.lt_succ_self _)
    have d2 : wr.cell? ⟨w.heap.size, 2, none⟩ = some (.int .i64 e.id) := by rw [hx 2]; simp
    have d3 : wr.cell? ⟨w.heap.size, 3, none⟩ = some (.int .i64 e.size) := by rw [hx 3]; simp
    have d2' := past1 (by omega) d2
    have d3' := past1 (by omega) d3
    have n1 : ¬ wr.heap.size = w.heap.size := by omega
    have n2 : ¬ w.heap.size = wr.heap.size := by omega
    by_cases hlt : k < l.length
    · have HSN : Hid (otherB (l.take (k + 1)) e = (otherB (l.take k) e || (decide (l[k].id = e.id) && decide (l[k].size ≠ e.size)))) := otherB_snoc l e k hlt
      have HHT : Hid ((decide (l[k].id = e.id) && decide (l[k].size ≠ e.size)) = true → otherB l e = true) := otherB_hit l e k hlt
      have hcw := (hc.below hbw hb) k hlt
      generalize l[k] = o at *
      have c0 := hcw 0 _ rfl
      have c1 := hcw 1 _ rfl
      have c2 := hcw 2 _ rfl
      have c3 := hcw 3 _ rfl
      have c4 := hcw 4 _ rfl
      simp only [Nat.add_zero] at c0
      clear hcw
      have hbn : ∀ ob, Below w.heap.size w (wr.alloc ob) ∧ Below (w.heap.size + 1) (w.alloc (.cells #[.string e.path, .bool e.dir, .int .i64 e.id, .int .i64 e.size, .int .i64 e.mode] 61)) (wr.alloc ob) := fun ob => ⟨hbw.alloc (by omega) _, hbw2.alloc (by omega) _⟩
      by_cases h1 : o.id = e.id
      · by_cases h2 : o.size = e.size
        · have g1 : (o.id == e.id) = true := by simpa using h1
          have g2 : (o.size != e.size) = false := by simpa using h2
          go_wp2
          exact ⟨⟨k + 1, by omega, by go_num, by rw [HSN.out, HD.out]; simp [h2], hbn _⟩, by simp [intOf]; omega⟩
        · have g1 : (o.id == e.id) = true := by simpa using h1
          have g2 : (o.size != e.size) = true := by simpa using h2
          go_wp2
          go_ret
          exact ⟨ret_bool (HHT.out (by simp [h1, h2])).symm, (hbn _).1⟩
      · have g1 : (o.id == e.id) = false := by simpa using h1
        go_wp2
        exact ⟨⟨k + 1, by omega, by go_num, by rw [HSN.out, HD.out]; simp [h1], hbn _⟩, by simp [intOf]; omega⟩
    · go_wp2
      go_ret
      refine ⟨ret_bool ?_, hbw⟩
      have h := HD.out
      rw [List.take_of_length_le (by omega)] at h
      exact h.symm

def fstI (pr : EntD → Bool) (l : List EntD) : Int := if l.any pr then (l.findIdx pr : Int) else -1
theorem fstI_hit (pr : EntD → Bool) (l : List EntD) (k : Nat) (h : k < l.length) (hp : pr l[k] = true) (hn : (l.take k).any pr = false) : fstI pr l = k := by
  have ha : l.any pr = true := List.any_eq_true.2 ⟨l[k], List.getElem_mem h, hp⟩
  rw [fstI, if_pos ha]
  congr 1
  rw [List.findIdx_eq h]
  refine ⟨hp, fun j hj => ?_⟩
  cases hx : pr l[j] with
  | false => rfl
  | true =>
    exfalso
    have : (l.take k).any pr = true := List.any_eq_true.2 ⟨l[j], List.mem_take_iff_getElem.2 ⟨j, by omega, rfl⟩, hx⟩
    rw [hn] at this; cases this
theorem fstI_none (pr : EntD → Bool) (l : List EntD) (h : l.any pr = false) : fstI pr l = -1 := by rw [fstI, h]; rfl
theorem any_snoc (pr : EntD → Bool) (l : List EntD) (k : Nat) (h : k < l.length) : (l.take (k + 1)).any pr = ((l.take k).any pr || pr l[k]) := by
  rw [List.take_succ_eq_append_getElem h, List.any_append]; simp

set_option maxHeartbeats 1000000 in
theorem indexFunc114 (b off cap : Nat) (l : List EntD) (pr : EntD → Bool) (P0 P1 : Addr) (w : World) (hl : l.length ≤ 2000000) (hs : ∀ o ∈ l, o.small) (hb : b < w.heap.size) (hc : EntsAt w b off l)
    (hcl : ∀ (o : EntD) (wr : World), o.small → Below w.heap.size w wr → Calls Tryd.prog 114 #[.agg #[.string o.path, .bool o.dir, .int .i64 o.id, .int .i64 o.size, .int .i64 o.mode], .pointer (some P0), .pointer (some P1)] wr fun e w' => e = .returned (.bool (pr o)) ∧ Below wr.heap.size wr w') :
    Calls Tryd.prog 106 #[.slice (some ⟨b, off, none⟩) l.length cap, .func (.func 114) #[] #[.pointer (some P0), .pointer (some P1)]] w fun e w' => e = .returned (.int .i64 (fstI pr l)) ∧ Below w.heap.size w w' := by
  have HCL : Hid (∀ (o : EntD) (wr : World), o.small → Below w.heap.size w wr → Calls Tryd.prog 114 #[.agg #[.string o.path, .bool o.dir, .int .i64 o.id, .int .i64 o.size, .int .i64 o.mode], .pointer (some P0), .pointer (some P1)] wr fun e w' => e = .returned (.bool (pr o)) ∧ Below wr.heap.size wr w') := hcl
  clear hcl
  go_enter Tryd.func106, Tryd.ntmps106
  go_wp2
  go_loopw [8] (fun i wr => ∃ k : Nat, k ≤ l.length ∧ i = .int .i64 k ∧ (l.take k).any pr = false ∧ Below w.heap.size w wr) (fun i _ => l.length - (intOf i).toNat)
  case atStart => exact ⟨0, Nat.zero_le _, rfl, rfl, Below.refl _ _⟩
  case round =>
    obtain ⟨k, hk, rfl, hd, hbw⟩ := hrel
    have HD : Hid ((l.take k).any pr = false) := hd
    clear hd
    have hbs := hbw.size
    by_cases hlt : k < l.length
    · have HSN : Hid ((l.take (k + 1)).any pr = ((l.take k).any pr || pr l[k])) := any_snoc pr l k hlt
      have HHT : Hid (pr l[k] = true → fstI pr l = k) := fun h => fstI_hit pr l k hlt h HD.out
      have hcw := (hc.below hbw hb) k hlt
      have hsm := hs _ (List.getElem_mem hlt)
      generalize l[k] = o at *
      have c0 := hcw 0 _ rfl
      have c1 := hcw 1 _ rfl
      have c2 := hcw 2 _ rfl
      have c3 := hcw 3 _ rfl
      have c4 := hcw 4 _ rfl
      simp only [Nat.add_zero] at c0
      clear hcw
      by_cases hp : pr o = true
      · go_wp2_with (go_at_call 114; refine (HCL.out o _ hsm hbw).mono ?_; rintro e w1 ⟨rfl, hb1⟩; rw [hp])
        go_ret
        exact ⟨by rw [HHT.out hp]; rfl, hbw.trans (hb1.mono hbs)⟩
      · simp only [Bool.not_eq_true] at hp
        go_wp2_with (go_at_call 114; refine (HCL.out o _ hsm hbw).mono ?_; rintro e w1 ⟨rfl, hb1⟩; rw [hp])
        exact ⟨⟨k + 1, by omega, by go_num, by rw [HSN.out, HD.out, hp]; rfl, hbw.trans (hb1.mono hbs)⟩, by simp [intOf]; omega⟩
    · go_wp2
      go_ret
      refine ⟨?_, hbw⟩
      have h := HD.out
      rw [List.take_of_length_le (by omega)] at h
      rw [fstI_none pr l h]; rfl

set_option maxHeartbeats 1000000 in
theorem indexFunc107 (b off cap : Nat) (l : List EntD) (pr : EntD → Bool) (P0 : Addr) (w : World) (hl : l.length ≤ 2000000) (hs : ∀ o ∈ l, o.small) (hb : b < w.heap.size) (hc : EntsAt w b off l)
    (hcl : ∀ (o : EntD) (wr : World), o.small → Below w.heap.size w wr → Calls Tryd.prog 107 #[.agg #[.string o.path, .bool o.dir, .int .i64 o.id, .int .i64 o.size, .int .i64 o.mode], .pointer (some P0)] wr fun e w' => e = .returned (.bool (pr o)) ∧ Below wr.heap.size wr w') :
    Calls Tryd.prog 106 #[.slice (some ⟨b, off, none⟩) l.length cap, .func (.func 107) #[] #[.pointer (some P0)]] w fun e w' => e = .returned (.int .i64 (fstI pr l)) ∧ Below w.heap.size w w' := by
  have HCL : Hid (∀ (o : EntD) (wr : World), o.small → Below w.heap.size w wr → Calls Tryd.prog 107 #[.agg #[.string o.path, .bool o.dir, .int .i64 o.id, .int .i64 o.size, .int .i64 o.mode], .pointer (some P0)] wr fun e w' => e = .returned (.bool (pr o)) ∧ Below wr.heap.size wr w') := hcl
  clear hcl
  go_enter Tryd.func106, Tryd.ntmps106
  go_wp2
  go_loopw [8] (fun i wr => ∃ k : Nat, k ≤ l.length ∧ i = .int .i64 k ∧ (l.take k).any pr = false ∧ Below w.heap.size w wr) (fun i _ => l.length - (intOf i).toNat)
  case atStart => exact ⟨0, Nat.zero_le _, rfl, rfl, Below.refl _ _⟩
  case round =>
    obtain ⟨k, hk, rfl, hd, hbw⟩ := hrel
    have HD : Hid ((l.take k).any pr = false) := hd
    clear hd
    have hbs := hbw.size
    by_cases hlt : k < l.length
    · have HSN : Hid ((l.take (k + 1)).any pr = ((l.take k).any pr || pr l[k])) := any_snoc pr l k hlt
      have HHT : Hid (pr l[k] = true → fstI pr l = k) := fun h => fstI_hit pr l k hlt h HD.out
      have hcw := (hc.below hbw hb) k hlt
      have hsm := hs _ (List.getElem_mem hlt)
      generalize l[k] = o at *
      have c0 := hcw 0 _ rfl
      have c1 := hcw 1 _ rfl
      have c2 := hcw 2 _ rfl
      have c3 := hcw 3 _ rfl
      have c4 := hcw 4 _ rfl
      simp only [Nat.add_zero] at c0
      clear hcw
      by_cases hp : pr o = true
      · go_wp2_with (go_at_call 107; refine (HCL.out o _ hsm hbw).mono ?_; rintro e w1 ⟨rfl, hb1⟩; rw [hp])
        go_ret
        exact ⟨by rw [HHT.out hp]; rfl, hbw.trans (hb1.mono hbs)⟩
      · simp only [Bool.not_eq_true] at hp
        go_wp2_with (go_at_call 107; refine (HCL.out o _ hsm hbw).mono ?_; rintro e w1 ⟨rfl, hb1⟩; rw [hp])
        exact ⟨⟨k + 1, by omega, by go_num, by rw [HSN.out, HD.out, hp]; rfl, hbw.trans (hb1.mono hbs)⟩, by simp [intOf]; omega⟩
    · go_wp2
      go_ret
      refine ⟨?_, hbw⟩
      have h := HD.out
      rw [List.take_of_length_le (by omega)] at h
      rw [fstI_none pr l h]; rfl

set_option maxHeartbeats 1000000 in
theorem findC_any (o : EntD) (B : Nat) (p : ByteArray) (fold : Bool) (w : World) (hp : p.size ≤ 1500000) (ho : o.small) (hB : B + 1 < w.heap.size) (c0 : w.cell? ⟨B, 0, none⟩ = some (.string p)) (c1 : w.cell? ⟨B + 1, 0, none⟩ = some (.bool fold)) :
    Calls Tryd.prog 114 #[.agg #[.string o.path, .bool o.dir, .int .i64 o.id, .int .i64 o.size, .int .i64 o.mode], .pointer (some ⟨B, 0, none⟩), .pointer (some ⟨B + 1, 0, none⟩)] w fun e w' => e = .returned (.bool (sameB fold o.path.data.toList p.data.toList)) ∧ Below w.heap.size w w' := by
  have d0 := past1 (by omega) c0
  have d1 := past1 (by omega) c1
  have hb : ∀ ob, Below w.heap.size w (w.alloc ob) := fun ob => (Below.refl _ _).alloc (Nat.le_refl _) ob
  unfold EntD.small at ho
  go_enter Tryd.func114, Tryd.ntmps114
  go_wp2_with (go_at_call 115; refine (same_any _ _ _ _ (by omega) (by omega)).mono ?_; rintro e w1 ⟨rfl, n, rfl⟩)
  go_ret
  exact ⟨rfl, (hb _).trans ⟨rfl, rfl, rfl, Nat.le_refl _, fun _ _ => rfl⟩⟩

set_option maxHeartbeats 1000000 in
theorem find_any (b off cap : Nat) (l : List EntD) (p : ByteArray) (fold : Bool) (w : World) (hl : l.length ≤ 2000000) (hs : ∀ o ∈ l, o.small) (hp : p.size ≤ 1500000) (hb : b < w.heap.size) (hc : EntsAt w b off l) :
    Calls Tryd.prog 99 #[.slice (some ⟨b, off, none⟩) l.length cap, .string p, .bool fold] w fun e w' => e = .returned (.int .i64 (fstI (fun o => sameB fold o.path.data.toList p.data.toList) l)) ∧ Below w.heap.size w w' := by
  have hmf : ∀ (fn : Fn) (first cap : Array Value) (w : World), (Instr.makeFunc fn first cap).run Tryd.prog w = .ok (.func fn first cap) w := fun _ _ _ _ => rfl
  have hb2 : Below w.heap.size w ((w.alloc (.cells #[.string p] 9)).alloc (.cells #[.bool fold] 4)) := ((Below.refl _ _).alloc (Nat.le_refl _) _).alloc (by simp) _
  have B0 : Boxed ((w.alloc (.cells #[.string p] 9)).alloc (.cells #[.bool fold] 4)) w.heap.size 9 (.string p) := (Boxed.new w 9 _).alloc _
  have B1 : Boxed ((w.alloc (.cells #[.string p] 9)).alloc (.cells #[.bool fold] 4)) (w.heap.size + 1) 4 (.bool fold) := by
    have := Boxed.new (w.alloc (.cells #[.string p] 9)) 4 (.bool fold); rwa [World.size_alloc] at this
  have HC := indexFunc114 b off cap l (fun o => sameB fold o.path.data.toList p.data.toList) ⟨w.heap.size, 0, none⟩ ⟨w.heap.size + 1, 0, none⟩ _ hl hs (by simp; omega) (hc.below hb2 hb) (fun o wr ho hbw => findC_any o w.heap.size p fold wr hp ho (by have := hbw.size; simp at this; omega) ((hbw.block _ B0.lt).trans B0 |> fun h => Boxed.cell (t := 9) h) ((hbw.block _ B1.lt).trans B1 |> fun h => Boxed.cell (t := 4) h))
  go_enter Tryd.func99, Tryd.ntmps99
  go_wp2_with (go_at_call 106; refine HC.mono ?_; rintro e w1 ⟨rfl, hb1⟩)
  go_ret
  exact ⟨rfl, hb2.trans (hb1.mono (by simp; omega))⟩
end Go.Proofs.YtjaepomjdknieaaDoor
