/- WF, WG, WH: in one text. -/
import Derived.Test.YtpjjagalekolaaaGreatDoorY28
import Derived.Deep.RegionHeld3
import Derived.Defers
import Derived.RangeFuncBox
import Derived.Recover
/- How far the journal tells; a step that does an operation; what stays where a volume changes. -/
namespace Go.Proofs.YtpjjagalekolaaaGreatDoor
open Go.RowKit
set_option linter.unusedVariables false
set_option linter.unusedSimpArgs false

set_option maxHeartbeats 4000000 in
set_option maxRecDepth 100000 in
theorem vdone_of {w : World} {vb g cap n m : Nat} {a0 : Option Addr} {l0 k0 : Nat} {s : ByteArray} {vs : List Value} {V : List EntD} {W : Nat → List EntD} (c0 : w.cell? ⟨vb, 0, none⟩ = some (.slice a0 l0 k0)) (c3 : w.cell? ⟨vb, 3, none⟩ = some (.string s)) (hlt0 : vb < w.heap.size) (hlt1 : g < w.heap.size) (hm : m ≤ n) (hn : n ≤ 2000000) (hlen : vs.length = n + 1) (hcell : ∀ (j : Nat) (h : j < vs.length), w.cell? ⟨g, j, none⟩ = some vs[j]) (hvs : ∀ (j : Nat) (h : j < vs.length), ∃ a k c, vs[j] = .slice a k c)
    (HM : Calls Tryz.prog 171 #[.string s, .int .i64 n] w fun e w' => e = .returned (.int .i64 m) ∧ w' = w)
    (HE : ∀ (j : Nat) (h : j < vs.length) (u : World), Below w.heap.size w u → Calls Tryz.prog 172 #[.slice a0 l0 k0, vs[j]] u fun e w' => ∃ b : Bool, e = .returned (.bool b) ∧ (b = true ↔ V = W j) ∧ Below u.heap.size u w') :
    Calls Tryz.prog 129 #[.pointer (some ⟨vb, 0, none⟩), .slice (some ⟨g, 0, none⟩) (n + 1) cap] w fun r w' => ∃ d : Int, r = .returned (.int .i64 d) ∧ DoneAt V W m d ∧ Below w.heap.size w w' := by
  have x0 := hcell m (by omega)
  have E0 := HE m (by omega)
  obtain ⟨am, lm, km, hvm⟩ := hvs m (by omega)
  rw [hvm] at x0 E0
  clear hvm
  by_cases hm0 : m = 0
  · subst hm0
    clear hcell hvs HE
    go_enter Tryz.func129, Tryz.ntmps129
    go_wp2_with (go_at_call 171; refine HM.mono ?_; rintro e w' ⟨rfl, hw⟩; rw [hw]; clear hw w')
    refine wp_loop_rounds 2 ?_
    rw [rounds_succ]
    go_wp2
    go_region_held3 (fun u => u.cell? ⟨vb, 0, none⟩ = some (.slice a0 l0 k0) ∧ u.cell? ⟨g, 0, none⟩ = some (.slice am lm km)) (go_keep) (first | (go_at_call 172; refine (E0 w.drew ⟨rfl, rfl, rfl, Nat.le_refl _, fun _ _ => rfl⟩).mono ?_; rintro e w1 ⟨b, rfl, hb, hb1⟩; have y0 := cell_kept hb1 hlt0 c0; have y1 := cell_kept hb1 hlt1 x0))
    have hb2 : Below w.heap.size w w1 := ⟨hb1.os, hb1.tape, hb1.output, hb1.size, hb1.block⟩
    cases b
    · go_wp2
      rw [rounds_succ]
      go_wp2
      go_ret
      exact ⟨-1, rfl, .inr (.inr ⟨fun h => by simp [h] at hb, fun h => by omega, rfl⟩), hb2⟩
    · go_wp2
      go_ret
      exact ⟨0, rfl, .inl ⟨by simpa using hb, rfl⟩, hb2⟩
  · have x1 := hcell (m - 1) (by omega)
    have E1 := HE (m - 1) (by omega)
    obtain ⟨an, ln, kn, hvn⟩ := hvs (m - 1) (by omega)
    rw [hvn] at x1 E1
    clear hvn hcell hvs HE
    obtain ⟨p, hp⟩ : ∃ p, m = p + 1 := ⟨m - 1, by omega⟩
    have hp1 : m - 1 = p := by omega
    rw [hp1] at x1 E1
    have em : (m : Int) - 1 = (p : Int) := by omega
    have hmx : (if 0 < p then (p : Int) else 0) = p := by split <;> omega
    have hm1 : (0 : Int) ≤ (m : Int) := by omega
    have hm2 : (m : Int) < (n : Int) + 1 := by omega
    have hm3 : (p : Int) ≤ (m : Int) := by omega
    have hm4 : (p : Int) < (n : Int) + 1 := by omega
    have hm5 : (0 : Int) ≤ (p : Int) := by omega
    have hm6 : ¬ ((p : Int) ≤ (p : Int) - 1) := by omega
    have HP := hidD (And.intro hp hp1)
    clear hm0 hp hp1
    go_enter Tryz.func129, Tryz.ntmps129
    go_wp2_with (go_at_call 171; refine HM.mono ?_; rintro e w' ⟨rfl, hw⟩; rw [hw]; clear hw w')
    refine wp_loop_rounds 3 ?_
    rw [rounds_succ]
    go_wp2
    go_region_held3 (fun u => u.cell? ⟨vb, 0, none⟩ = some (.slice a0 l0 k0) ∧ u.cell? ⟨g, m, none⟩ = some (.slice am lm km)) (go_keep) (first | (go_at_call 172; refine (E0 w.drew ⟨rfl, rfl, rfl, Nat.le_refl _, fun _ _ => rfl⟩).mono ?_; rintro e w1 ⟨b, rfl, hb, hb1⟩; have y0 := cell_kept hb1 hlt0 c0; have y1 := cell_kept hb1 hlt1 x0))
    have hb2 : Below w.heap.size w w1 := ⟨hb1.os, hb1.tape, hb1.output, hb1.size, hb1.block⟩
    cases b
    · have z1 := cell_kept hb1 hlt1 x1
      have hne : V ≠ W m := fun h => by simp [h] at hb
      have HNE := hidD hne
      clear hb hne
      go_wp2
      rw [rounds_succ]
      go_wp2
      go_region_held3 (fun u => u.cell? ⟨vb, 0, none⟩ = some (.slice a0 l0 k0) ∧ u.cell? ⟨g, p, none⟩ = some (.slice an ln kn)) (go_keep) (first | (go_at_call 172; refine (E1 w1.drew ⟨hb2.os, hb2.tape, hb2.output, hb2.size, hb2.block⟩).mono ?_; rintro e w2 ⟨b, rfl, hc, hb3⟩; have y2 := cell_kept hb3 (Nat.lt_of_lt_of_le hlt0 hb2.size) y0; have y3 := cell_kept hb3 (Nat.lt_of_lt_of_le hlt1 hb2.size) z1))
      have hb4 : Below w.heap.size w w2 := hb2.trans (Below.mono ⟨hb3.os, hb3.tape, hb3.output, hb3.size, hb3.block⟩ hb2.size)
      cases b
      · go_wp2
        rw [rounds_succ]
        go_wp2
        go_ret
        exact ⟨-1, rfl, .inr (.inr ⟨HNE.out, fun _ h => by rw [HP.out.2] at h; simp [← h] at hc, rfl⟩), hb4⟩
      · go_wp2
        go_ret
        exact ⟨p, rfl,   .inr (.inl ⟨HNE.out, by have := HP.out.1; omega, by rw [HP.out.2]; simpa using hc, em.symm⟩), hb4⟩
    · go_wp2
      go_ret
      exact ⟨m, rfl, .inl ⟨by simpa using hb, rfl⟩, hb2⟩

theorem vdone {T : TypeId} {w : World} {vb g cap n m : Nat} {v : Value} {fold : Bool} {space : Int} {vs : List Value} {V : List EntD} {W : Nat → List EntD} (hk : Vk T w vb v fold space [.string (marksB m)]) (hr : RowAt w v V) (hV : V.length ≤ 2000000) (hm : m ≤ n) (hn : n ≤ 2000000) (hlen : vs.length = n + 1) (hlt1 : g < w.heap.size) (hcell : ∀ (j : Nat) (h : j < vs.length), w.cell? ⟨g, j, none⟩ = some vs[j]) (rows : ∀ (j : Nat) (h : j < vs.length), RowAt w vs[j] (W j)) :
    Calls Tryz.prog 129 #[.pointer (some ⟨vb, 0, none⟩), .slice (some ⟨g, 0, none⟩) (n + 1) cap] w fun r w' => ∃ d : Int, r = .returned (.int .i64 d) ∧ DoneAt V W m d ∧ Below w.heap.size w w' := by
  have c0 := hk.vol.c0
  have c3 := hk.c3
  obtain ⟨a0, k0, rfl⟩ := hr.val
  exact vdone_of c0 c3 hk.lt hlt1 hm hn hlen hcell (fun j h => by obtain ⟨a, c, e⟩ := (rows j h).val; exact ⟨_, _, _, e⟩) (marks_any m n w hm hn) (fun j h u hu => (vEq (hr.below hu (Nat.le_refl _)) ((rows j h).below hu (Nat.le_refl _)) hV).mono (by rintro e w' ⟨b, rfl, hb, q, rfl⟩; exact ⟨b, rfl, hb, below_drewE _ _⟩))

set_option maxHeartbeats 4000000 in
set_option maxRecDepth 100000 in
/-- step, where the mark is there. -/
theorem step_do {T : TypeId} {u : World} {vb : Nat} {v : Value} {V : List EntD} {fold : Bool} {space : Int} {m : Nat} (hk : Vk T u vb v fold space [.string (marksB m)]) (hr : RowAt u v V) (K : VolOk fold V) (hg : Gd u) (o : OpD) (hok : okOp o = true) (hsm : o.small) (h0 : 0 ≤ space) (h1 : space ≤ 9223372036854775807) (n : Nat) (hn : n < m) (hm : m ≤ 2000000) :
    Calls Tryz.prog 130 #[.pointer (some ⟨vb, 0, none⟩), .int .i64 n, .agg #[.int .i64 o.kind, .string o.path, .string o.dest, .int .i64 o.id, .int .i64 o.size, .int .i64 o.mode]] u fun r w' => DoA T u vb fold space [.string (marksB m)] (doL fold space V o) r w' := by
  have HD := hidD (fun (w1 : World) (hb : Below u.heap.size u w1) => vDoT_good (hk.below hb hk.lt) (hr.below hb (Nat.le_refl _)) K (hg.below hb) o hok hsm h0 h1)
  have hlt := hk.lt
  obtain ⟨kind, path, dest, id, size, mode⟩ := o
  dsimp only at *
  have ST : Hid (Ob u ⟨kind, path, dest, id, size, mode⟩ (u.alloc (.cells #[.int .i64 kind, .string path, .string dest, .int .i64 id, .int .i64 size, .int .i64 mode] 59))) := Ob.start u _
  have HK := hidD (hk.below ST.out.bel hlt)
  have c0 := HK.out.vol.c0
  have c3 := HK.out.c3
  have hsz := marksB_size m
  clear hk hr K hg HK
  generalize doL fold space V ⟨kind, path, dest, id, size, mode⟩ = X at *
  generalize marksB m = s at *
  go_enter Tryz.func130, Tryz.ntmps130
  go_wp2_with (go_at_call 45; refine (HD.out _ ST.out.bel).mono ?_; intro r w1 hd; obtain ⟨k, hr⟩ := hd.retD; subst hr)
  go_ret
  exact DoA.from_below ST.out.bel hd

theorem cell_lt {w : World} {b o : Nat} {v : Value} (h : w.cell? ⟨b, o, none⟩ = some v) : b < w.heap.size := by
  by_cases hb : b < w.heap.size
  · exact hb
  · simp [World.cell?, Array.getElem?_eq_none (show w.heap.size ≤ b by omega)] at h
theorem done_neg {V : List EntD} {W : Nat → List EntD} {m : Nat} {d0 d : Int} (h0 : DoneAt V W m d0) (hn : d0 = -1) (h : DoneAt V W m d) : d = -1 := by
  rcases h0 with ⟨_, e⟩ | ⟨_, p, _, e⟩ | ⟨n1, n2, _⟩
  · omega
  · omega
  · rcases h with ⟨e, _⟩ | ⟨_, p, e, _⟩ | ⟨_, _, e⟩
    · exact absurd e n1
    · exact absurd e (n2 p)
    · exact e
theorem RowAt.grown {T : TypeId} {w u : World} {vb : Nat} {v v' : Value} {L : List EntD} {fold : Bool} {space : Int} {rest : List Value} (h : RowAt w v' L) (k : Vk T w vb v fold space rest) (hr : rest.length ≤ 1) (hg : w.grownBy u (some vb)) : RowAt u v' L := by
  cases h with
  | nil => exact .nil
  | row b off cap l hlt hc hm h =>
    refine .row b off cap L (Nat.lt_of_lt_of_le hlt hg.size) hc hm ?_
    by_cases hb : b = vb
    · subst hb
      intro i hi
      exfalso
      have hc4 := h i hi 4 _ rfl
      rw [Lib.cell_of_heap k, List.getElem?_toArray, List.getElem?_eq_none (by simp only [List.length_cons]; omega)] at hc4
      cases hc4
    · exact fun i hi j x hx => hg.cell (h i hi j x hx) (by simpa using hb)
theorem OpRow.grown {T : TypeId} {w u : World} {vb : Nat} {v v' : Value} {l : List OpD} {fold : Bool} {space : Int} {rest : List Value} (h : OpRow w v' l) (k : Vk T w vb v fold space rest) (hr : rest.length ≤ 1) (hg : w.grownBy u (some vb)) : OpRow u v' l := by
  cases h with
  | nil => exact .nil
  | row b off cap l hlt h =>
    refine .row b off cap l (Nat.lt_of_lt_of_le hlt hg.size) ?_
    by_cases hb : b = vb
    · subst hb
      intro i hi
      exfalso
      have hc4 := h i hi 5 _ rfl
      rw [Lib.cell_of_heap k, List.getElem?_toArray, List.getElem?_eq_none (by simp only [List.length_cons]; omega)] at hc4
      cases hc4
    · exact fun i hi j x hx => hg.cell (h i hi j x hx) (by simpa using hb)
theorem Gd.grown {w u : World} {b : Nat} (h : Gd w) (hg : w.grownBy u (some b)) (hb : 2 ≤ b) : Gd u where
  big := by have := hg.size; have := h.big; omega
  len := by obtain ⟨m, hm⟩ := h.len; exact ⟨m, hg.cell hm (by simp; omega)⟩
  need := fun k hk j v hv => hg.cell (h.need k hk j v hv) (by simp; omega)

/-- A volume at work: its entries and its marks, and all else as it was. -/
structure WkSt (T : TypeId) (w0 : World) (vb : Nat) (fold : Bool) (space : Int) (v0 : Value) (V0 : List EntD) (u : World) (m : Nat) (v : Value) (V : List EntD) : Prop where
  gr : w0.grownBy u (some vb)
  vk : Vk T u vb v fold space [.string (marksB m)]
  row : (v = v0 ∧ V = V0) ∨ u.ownsRow w0.heap.size 56 5 v V.length (flatE V)
theorem WkSt.start {T : TypeId} {w0 : World} {vb : Nat} {fold : Bool} {space : Int} {v0 : Value} {V0 : List EntD} {m : Nat} (h : Vk T w0 vb v0 fold space [.string (marksB m)]) : WkSt T w0 vb fold space v0 V0 w0 m v0 V0 :=
  ⟨⟨rfl, rfl, rfl, Nat.le_refl _, fun _ _ _ => rfl⟩, h, .inl ⟨rfl, rfl⟩⟩
theorem WkSt.rowAt {T : TypeId} {w0 : World} {vb : Nat} {fold : Bool} {space : Int} {v0 : Value} {V0 : List EntD} {u : World} {m m0 : Nat} {v : Value} {V : List EntD} (h : WkSt T w0 vb fold space v0 V0 u m v V) (hk : Vk T w0 vb v0 fold space [.string (marksB m0)]) (hr : RowAt w0 v0 V0) : RowAt u v V := by
  rcases h.row with ⟨rfl, rfl⟩ | ho
  · exact hr.grown hk (by simp) h.gr
  · exact RowAt.ofOwn ho
theorem WkSt.below {T : TypeId} {w0 : World} {vb : Nat} {fold : Bool} {space : Int} {v0 : Value} {V0 : List EntD} {u u' : World} {m : Nat} {v : Value} {V : List EntD} (h : WkSt T w0 vb fold space v0 V0 u m v V) (hb : Below u.heap.size u u') : WkSt T w0 vb fold space v0 V0 u' m v V :=
  ⟨⟨hb.os.trans h.gr.os, hb.tape.trans h.gr.tape, hb.output.trans h.gr.output, Nat.le_trans h.gr.size hb.size, fun k hk hne => (hb.block k (Nat.lt_of_lt_of_le hk h.gr.size)).trans (h.gr.block k hk hne)⟩, h.vk.below hb h.vk.lt, h.row.imp id (own_below hb)⟩
theorem WkSt.mark {T : TypeId} {w0 : World} {vb : Nat} {fold : Bool} {space : Int} {v0 : Value} {V0 : List EntD} {u u' : World} {m m' : Nat} {v : Value} {V : List EntD} (h : WkSt T w0 vb fold space v0 V0 u m v V) (hT : 56 ≠ T) (hk : Vk T u' vb v fold space [.string (marksB m')]) (hg : u.grownBy u' (some vb)) : WkSt T w0 vb fold space v0 V0 u' m' v V :=
  ⟨h.gr.trans hg, hk, h.row.imp id (fun o => own_vk o h.vk hT hg)⟩
theorem WkSt.did {T : TypeId} {w0 : World} {vb : Nat} {fold : Bool} {space : Int} {v0 : Value} {V0 : List EntD} {u u' : World} {m : Nat} {v v' : Value} {V M : List EntD} (h : WkSt T w0 vb fold space v0 V0 u m v V) (hk : Vk T u' vb v' fold space [.string (marksB m)]) (ho : u'.ownsRow u.heap.size 56 5 v' M.length (flatE M)) (hg : u.grownBy u' (some vb)) : WkSt T w0 vb fold space v0 V0 u' m v' M :=
  ⟨h.gr.trans hg, hk, .inr (own_mono ho h.gr.size)⟩
theorem WkSt.from_below {T : TypeId} {w w0 : World} {vb : Nat} {fold : Bool} {space : Int} {v0 : Value} {V0 : List EntD} {u : World} {m : Nat} {v : Value} {V : List EntD} (hb : Below w.heap.size w w0) (h : WkSt T w0 vb fold space v0 V0 u m v V) : WkSt T w vb fold space v0 V0 u m v V :=
  ⟨grown_of hb h.gr, h.vk, h.row.imp id (fun o => own_mono o hb.size)⟩
end Go.Proofs.YtpjjagalekolaaaGreatDoor

/- The program's Work on a volume: what it answers, and what it leaves. -/
namespace Go.Proofs.YtpjjagalekolaaaGreatDoor
open Go.RowKit
set_option linter.unusedVariables false
set_option linter.unusedSimpArgs false

/-- What Work comes to, by the journal's marks m: the error, the place, the tree and the marks behind it. -/
def WorkS (fold : Bool) (space : Int) (V S : List EntD) (l : List OpD) (m : Nat) (e k : Int) (V' : List EntD) (m' : Nat) : Prop :=
  match tryP fold 9223372036854775807 S l with
  | .error (c, p) => m' = m ∧ V' = V ∧ (c = 4 → e = 4 ∧ k = 0) ∧ (c ≠ 4 → e = 18 ∧ k = p)
  | .ok _ => ∃ d : Int, DoneAt V (wayT fold S l) m d ∧ (d = -1 → m' = m ∧ V' = V ∧ e = 16 ∧ k = 0) ∧ ∀ dn : Nat, d = dn → ∃ n : Nat, k = n ∧ seqL fold space V (l.drop dn) dn = (e, n, V') ∧ V' = wayT fold S l n ∧ ((e = 0 ∧ n = l.length ∧ m' = n) ∨ (e ≠ 0 ∧ n < l.length ∧ m' = n + 1 ∧ V' ≠ wayT fold S l (n + 1)))
def WorkA (T : TypeId) (w : World) (vb : Nat) (fold : Bool) (space : Int) (v : Value) (V S : List EntD) (l : List OpD) (m : Nat) (r : Ending) (w' : World) : Prop :=
  ∃ (e k : Int) (m' : Nat) (v' : Value) (V' : List EntD), r = .returned (.tuple #[.int .i64 e, .int .i64 k]) ∧ WkSt T w vb fold space v V w' m' v' V' ∧ VolOk fold V' ∧ WorkS fold space V S l m e k V' m'

theorem try_ok {fold : Bool} {space : Int} {S : List EntD} {l : List OpD} {x : List EntD × Int} (h : tryP fold space S l = .ok x) : l.length ≤ 400 ∧ ∀ o ∈ l, okOp o = true := by
  unfold tryP at h
  split at h
  · cases h
  · split at h
    · cases h
    · rename_i hf
      exact script_good (by simpa using hf)

/-- Where the work stands: so many operations done, so many marks, so much budget. -/
structure WkI (fold : Bool) (space : Int) (W : Nat → List EntD) (l : List OpD) (V0 : List EntD) (d0 : Nat) (V : List EntD) (m d : Nat) (b : Int) : Prop where
  vol : VolOk fold V
  mle : m ≤ l.length
  seq : seqL fold space V0 (l.drop d0) d0 = seqL fold space V (l.drop d) d
  at_ : (d = m ∧ V = W m ∧ 2 * ((l.length : Int) - m) + 1 ≤ b) ∨ (d + 1 = m ∧ V ≠ W m ∧ V = W d ∧ 2 * ((l.length : Int) - m) + 2 ≤ b)
theorem WkI.done {fold : Bool} {space : Int} {W : Nat → List EntD} {l : List OpD} {V0 : List EntD} {d0 : Nat} {V : List EntD} {m d : Nat} {b : Int} (h : WkI fold space W l V0 d0 V m d b) {d' : Int} (hd : DoneAt V W m d') : d' = d := by
  rcases h.at_ with ⟨h1, h2, _⟩ | ⟨h1, h2, h3, _⟩
  · rcases hd with ⟨_, e⟩ | ⟨e, _⟩ | ⟨e, _⟩
    · rw [e, h1]
    · exact absurd h2 e
    · exact absurd h2 e
  · have hm1 : m - 1 = d := by omega
    rcases hd with ⟨e, _⟩ | ⟨_, _, _, e⟩ | ⟨_, e, _⟩
    · exact absurd e h2
    · rw [e]; omega
    · exact absurd (by rw [hm1]; exact h3) (e (by omega))
theorem WkI.pos {fold : Bool} {space : Int} {W : Nat → List EntD} {l : List OpD} {V0 : List EntD} {d0 : Nat} {V : List EntD} {m d : Nat} {b : Int} (h : WkI fold space W l V0 d0 V m d b) : 1 ≤ b ∧ d ≤ l.length ∧ V = W d := by
  have := h.mle
  rcases h.at_ with ⟨h1, h2, h3⟩ | ⟨h1, h2, h3, h4⟩
  · exact ⟨by omega, by omega, by rw [h1]; exact h2⟩
  · exact ⟨by omega, by omega, h3⟩
theorem WkI.start {fold : Bool} {space : Int} {W : Nat → List EntD} {l : List OpD} {V : List EntD} {m d : Nat} {b : Int} (K : VolOk fold V) (hm : m ≤ l.length) (hd : DoneAt V W m d) (hb : 2 * (l.length : Int) + 2 ≤ b) : WkI fold space W l V d V m d b where
  vol := K
  mle := hm
  seq := rfl
  at_ := by
    rcases hd with ⟨e1, e2⟩ | ⟨e1, e2, e3, e4⟩ | ⟨_, _, e⟩
    · exact .inl ⟨by omega, e1, by omega⟩
    · have : m - 1 = d := by omega
      exact .inr ⟨by omega, e1, by rw [← this]; exact e3, by omega⟩
    · omega
/-- A mark is put. -/
theorem WkI.mark {fold : Bool} {space : Int} {W : Nat → List EntD} {l : List OpD} {V0 : List EntD} {d0 : Nat} {V : List EntD} {m : Nat} {b : Int} (h : WkI fold space W l V0 d0 V m m b) (hm : m < l.length) (hs : doL fold 9223372036854775807 (W m) l[m] = .ok (W (m + 1))) : ∃ d, WkI fold space W l V0 d0 V (m + 1) d (b - 1) := by
  have hV : V = W m := h.pos.2.2
  have hb : 2 * ((l.length : Int) - m) + 1 ≤ b := by
    rcases h.at_ with ⟨_, _, h3⟩ | ⟨h1, _⟩
    · exact h3
    · omega
  by_cases he : V = W (m + 1)
  · refine ⟨m + 1, h.vol, by omega, ?_, .inl ⟨rfl, he, by omega⟩⟩
    rw [← hV, ← he] at hs
    rw [h.seq, seq_step hm, do_idle hs]
  · exact ⟨m, h.vol, by omega, h.seq, .inr ⟨rfl, he, hV, by omega⟩⟩
/-- An operation is done. -/
theorem WkI.did {fold : Bool} {space : Int} {W : Nat → List EntD} {l : List OpD} {V0 : List EntD} {d0 : Nat} {V : List EntD} {d : Nat} {b : Int} (h : WkI fold space W l V0 d0 V (d + 1) d b) (hd : d < l.length) (hs : doL fold space V l[d] = .ok (W (d + 1))) (K : VolOk fold (W (d + 1))) : WkI fold space W l V0 d0 (W (d + 1)) (d + 1) (d + 1) (b - 1) where
  vol := K
  mle := h.mle
  seq := by rw [h.seq, seq_step hd, hs]
  at_ := by
    rcases h.at_ with ⟨h1, _⟩ | ⟨_, _, _, h4⟩
    · omega
    · exact .inl ⟨rfl, rfl, by omega⟩

set_option maxHeartbeats 8000000 in
set_option maxRecDepth 100000 in
theorem vWork {T : TypeId} {w : World} {vb : Nat} {v sv lv : Value} {V S : List EntD} {l : List OpD} {fold : Bool} {space : Int} {m : Nat} (hT : 56 ≠ T) (hk : Vk T w vb v fold space [.string (marksB m)]) (hvb : 2 ≤ vb) (hr : RowAt w v V) (K : VolOk fold V) (h0 : 0 ≤ space) (h1 : space ≤ 9223372036854775807) (hs : RowAt w sv S) (hS : SmallL S) (hg : Gd w) (ho : OpRow w lv l) (hl : l.length ≤ 2000000) (hos : ∀ o ∈ l, o.small) (hml : m ≤ l.length) (b : Int) (hb : 2 * (l.length : Int) + 2 ≤ b) (hb2 : b ≤ 9223372036854775807) :
    Calls Tryz.prog 77 #[.pointer (some ⟨vb, 0, none⟩), sv, lv, .int .i64 b] w fun r w' => WorkA T w vb fold space v V S l m r w' := by
  have c1 := hk.vol.c1
  cases hX : tryP fold 9223372036854775807 S l with
  | error ck =>
    obtain ⟨c, k⟩ := ck
    have HC := hidD (vcourseW fold hs hS hg ho hl hos _ hX)
    unfold CrsW at HC
    have HK := hidD hk
    have HV := hidD K
    have HX := hidD hX
    obtain ⟨sa, sc, rfl⟩ := hs.val
    obtain ⟨la, lc, rfl⟩ := ho.val
    clear hs hS hg ho hos hr hk K hX
    by_cases hc4 : c = 4
    · subst hc4
      go_enter Tryz.func77, Tryz.ntmps77
      go_wp2_with (go_at_call 68; refine HC.out.mono ?_; rintro r w1 ⟨rfl, hc, hb1⟩)
      go_ret2
      exact ⟨4, 0, m, v, V, rfl, (WkSt.start HK.out).below hb1, HV.out, by unfold WorkS; rw [HX.out]; exact ⟨rfl, rfl, fun _ => ⟨rfl, rfl⟩, fun h => absurd rfl h⟩⟩
    · have hc5 : (c == 4) = false := by simpa using hc4
      go_enter Tryz.func77, Tryz.ntmps77
      go_wp2_with (go_at_call 68; refine HC.out.mono ?_; rintro r w1 ⟨rfl, hc, hb1⟩; have hc0 : (c == 0) = false := (by simpa using hc))
      go_ret2
      exact ⟨18, k, m, v, V, rfl, (WkSt.start HK.out).below hb1, HV.out, by unfold WorkS; rw [HX.out]; exact ⟨rfl, rfl, fun h => absurd h hc4, fun _ => ⟨rfl, rfl⟩⟩⟩
  | ok mn =>
    have HC := hidD (vcourseW fold hs hS hg ho hl hos _ hX)
    unfold CrsW at HC
    obtain ⟨hl4, hok⟩ := try_ok hX
    have HOK := hidD hok
    have HK := hidD hk
    have HV := hidD K
    have HX := hidD hX
    have HR := hidD hr
    have HG := hidD hg
    have HO := hidD ho
    have HOS := hidD hos
    have hvlt := hk.lt
    obtain ⟨sa, sc, rfl⟩ := hs.val
    obtain ⟨la, lc, rfl⟩ := ho.val
    clear hs hS hg ho hos hr hk K hX hok
    go_enter Tryz.func77, Tryz.ntmps77
    go_wp2_with (go_at_call 68; refine HC.out.mono ?_; clear HC; rintro r w1 ⟨g, cap, vs, rfl, hb1, hgg, hvl, hcell, hrows, hvok, hway⟩; have HCELL := hidD hcell; have HROWS := hidD hrows; have HVOK := hidD hvok; have HWAY := hidD hway; clear hcell hrows hvok hway)
    have HK1 := hidD (HK.out.below hb1 hvlt)
    have HR1 := hidD (HR.out.below hb1 (Nat.le_refl _))
    have HG1 := hidD (HG.out.below hb1)
    have HO1 := hidD (HO.out.below hb1 (Nat.le_refl _))
    have HB1 := hidD hb1
    have hvlt1 : vb < w1.heap.size := Nat.lt_of_lt_of_le hvlt hb1.size
    have hglt1 : g < w1.heap.size := by
      have := HCELL.out 0 (by omega)
      exact cell_lt this
    have hgne : g ≠ vb := by omega
    clear HR HG HO hb1
    -- how many are done, at the beginning
    have hdone : ∃ d : Int, DoneAt V (wayT fold S l) m d := by
      by_cases e1 : V = wayT fold S l m
      · exact ⟨_, .inl ⟨e1, rfl⟩⟩
      · by_cases e2 : 0 < m ∧ V = wayT fold S l (m - 1)
        · exact ⟨_, .inr (.inl ⟨e1, e2.1, e2.2, rfl⟩)⟩
        · exact ⟨_, .inr (.inr ⟨e1, fun h h' => e2 ⟨h, h'⟩, rfl⟩)⟩
    obtain ⟨d0, hd0⟩ := hdone
    by_cases hneg : d0 = -1
    · -- the tree is another
      have HD := hidD (vdone HK1.out HR1.out (by have := HV.out.few; omega) hml hl hvl hglt1 HCELL.out (cap := cap) HROWS.out)
      have HD0 := hidD hd0
      clear hd0
      refine wp_loop_rounds 1 ?_
      rw [rounds_succ]
      go_wp2_with (go_at_call 129; refine HD.out.mono ?_; rintro r w2 ⟨d, rfl, hd, hb2'⟩; obtain rfl := done_neg HD0.out hneg hd; clear hd)
      go_ret2
      exact ⟨16, 0, m, v, V, rfl, ((WkSt.start HK1.out).below hb2').from_below HB1.out, HV.out, by unfold WorkS; rw [HX.out]; exact ⟨-1, hneg ▸ HD0.out, fun _ => ⟨rfl, rfl, rfl, rfl⟩, fun dn h => absurd h (by omega)⟩⟩
    · obtain ⟨dn0, hdn0⟩ : ∃ n : Nat, d0 = n := by
        rcases hd0 with ⟨_, e⟩ | ⟨_, h, _, e⟩ | ⟨_, _, e⟩
        · exact ⟨m, e⟩
        · exact ⟨m - 1, by omega⟩
        · exact absurd e hneg
      subst hdn0
      have I0 := hidD (WkI.start (space := space) HV.out hml hd0 hb)
      have S0 := hidD (WkSt.start (V0 := V) HK1.out)
      have HFIN := hidD (fun (e : Int) (n m' : Nat) (v' : Value) (V' : List EntD) (w' : World) (hw : WkSt T w1 vb fold space v V w' m' v' V') (hv : VolOk fold V') (h2 : seqL fold space V (l.drop dn0) dn0 = (e, n, V')) (h3 : V' = wayT fold S l n) (h4 : (e = 0 ∧ n = l.length ∧ m' = n) ∨ (e ≠ 0 ∧ n < l.length ∧ m' = n + 1 ∧ V' ≠ wayT fold S l (n + 1))) => show WorkA T w vb fold space v V S l m (.returned (.tuple #[.int .i64 e, .int .i64 n])) w' from ⟨e, n, m', v', V', rfl, hw.from_below HB1.out, hv, by unfold WorkS; rw [HX.out]; exact ⟨dn0, hd0, fun h => absurd h hneg, fun dn h => (by have hdd : dn = dn0 := (by omega); rw [hdd]; exact ⟨n, rfl, h2, h3, h4⟩)⟩⟩)
      clear hd0 hneg HX HV HB1
      go_loopw [3] (fun bv wr => ∃ (b : Int) (m d : Nat) (v' : Value) (V' : List EntD), bv = .int .i64 b ∧ b ≤ 9223372036854775807 ∧ Hid (WkSt T w1 vb fold space v V wr m v' V') ∧ Hid (WkI fold space (wayT fold S l) l V dn0 V' m d b)) (fun bv _ => (intOf bv).toNat)
      case atStart => exact ⟨b, m, dn0, v, V, rfl, hb2, S0, I0⟩
      case round =>
        clear S0 I0 hb hb2 hml HK
        obtain ⟨b1, m1, d, v', V', rfl, hb2, SS, I⟩ := hrel
        have hml := I.out.mle
        obtain ⟨hbp, hdl, hVd⟩ := I.out.pos
        have hr' := SS.out.rowAt HK1.out HR1.out
        have HD := hidD (vdone SS.out.vk hr' (by have := I.out.vol.few; omega) hml hl hvl (Nat.lt_of_lt_of_le hglt1 SS.out.gr.size) (fun j h => SS.out.gr.cell (HCELL.out j h) (by simpa using hgne)) (cap := cap) (fun j h => (HROWS.out j h).grown HK1.out (by simp) SS.out.gr))
        have HR' := hidD hr'
        have HVd := hidD hVd
        clear hr' hVd
        by_cases hdl2 : d = l.length
        · subst hdl2
          have hdI : ((l.length : Int) == (l.length : Int)) = true := by simp
          go_wp2_with (go_at_call 129; refine HD.out.mono ?_; rintro r w2 ⟨d', rfl, hd', hb2'⟩; obtain rfl := I.out.done hd'; clear hd')
          go_ret2
          refine HFIN.out 0 l.length m1 v' V' _ (SS.out.below hb2') I.out.vol ?_ HVd.out (.inl ⟨rfl, rfl, ?_⟩)
          · rw [I.out.seq, seq_end]
          · rcases I.out.at_ with ⟨h1, _⟩ | ⟨h1, _⟩
            · exact h1.symm
            · omega
        · have hlt : d < l.length := by omega
          have hdI : ((d : Int) == (l.length : Int)) = false := by simp; omega
          have hbI : ¬ (b1 ≤ 0) := by omega
          obtain ⟨b2, off2, rfl, _, hlb2, hops⟩ := op_parts (HO1.out.grown HK1.out (by simp) SS.out.gr) hlt
          have hok := HOK.out _ (List.getElem_mem hlt)
          have hsm := HOS.out _ (List.getElem_mem hlt)
          have hstep := HWAY.out d hlt
          rw [← HVd.out] at hstep
          have HST := hidD hstep
          have HOPS := hidD (hops d hlt)
          have IM := hidD (fun (e : d = m1) => (e ▸ I.out : WkI fold space (wayT fold S l) l V dn0 V' m1 m1 b1).mark (e ▸ hlt) (HWAY.out m1 (e ▸ hlt)))
          have ID := hidD (fun (e : d + 1 = m1) (hs : doL fold space V' l[d] = .ok (wayT fold S l (d + 1))) => (e ▸ I.out : WkI fold space (wayT fold S l) l V dn0 V' (d + 1) d b1).did hlt hs (HVOK.out _ (by omega)))
          have IE := hidD (fun (c : Int) (hs : doL fold space V' l[d] = .error c) => show seqL fold space V (l.drop dn0) dn0 = (c, d, V') from by rw [I.out.seq, seq_step hlt, hs])
          have hops' := HOPS.out
          generalize l[d] = o at *
          clear hops hstep hops'
          have hlb3 : b2 < wr.heap.size := hlb2
          rcases I.out.at_ with ⟨hdm, _, _⟩ | ⟨hdm, hne, _, _⟩
          · -- the mark
            obtain ⟨d2, I2⟩ := IM.out hdm
            have I3 := hidD I2
            have hmd : m1 ≤ d := by omega
            subst hdm
            clear I2 IM ID IE HST HR'
            go_wp2_with (first | (go_at_call 129; refine HD.out.mono ?_; rintro r w2 ⟨d', rfl, hd', hb2'⟩; obtain rfl := I.out.done hd'; clear hd'; have k0 := cell_kept hb2' hlb3 (HOPS.out 0 _ rfl); have k1 := cell_kept hb2' hlb3 (HOPS.out 1 _ rfl); have k2 := cell_kept hb2' hlb3 (HOPS.out 2 _ rfl); have k3 := cell_kept hb2' hlb3 (HOPS.out 3 _ rfl); have k4 := cell_kept hb2' hlb3 (HOPS.out 4 _ rfl); have k5 := cell_kept hb2' hlb3 (HOPS.out 5 _ rfl); simp only [Nat.add_zero] at k0) | (go_at_call 130; refine (step_mark (SS.out.below hb2').vk d o hmd (by omega)).mono ?_; rintro r w3 ⟨rfl, hk3, hg3⟩))
            exact ⟨⟨b1 - 1, d + 1, d2, v', V', by first | rfl | go_num, by omega, hidD ((SS.out.below hb2').mark hT hk3 hg3), I3⟩, by simp [intOf]; omega⟩
          · have hdm' : d < m1 := by omega
            subst hdm
            have HNE := hidD hne
            have HDO := hidD (fun (u : World) (hu : Below wr.heap.size wr u) => step_do (SS.out.below hu).vk (HR'.out.below hu (Nat.le_refl _)) I.out.vol ((HG1.out.grown SS.out.gr hvb).below hu) o hok hsm h0 h1 d hdm' (by omega))
            clear IM HR' hne
            cases hd : doL fold space V' o with
            | error c =>
              have hc0 := do_err hd
              have hcb : (c != 0) = true := by simpa using hc0
              have hfin := IE.out c hd
              have HF := hidD hfin
              rw [hd] at HDO
              unfold DoA at HDO
              clear hd hfin IE ID HST
              go_wp2_with (first | (go_at_call 129; refine HD.out.mono ?_; rintro r w2 ⟨d', rfl, hd', hb2'⟩; obtain rfl := I.out.done hd'; clear hd'; have k0 := cell_kept hb2' hlb3 (HOPS.out 0 _ rfl); have k1 := cell_kept hb2' hlb3 (HOPS.out 1 _ rfl); have k2 := cell_kept hb2' hlb3 (HOPS.out 2 _ rfl); have k3 := cell_kept hb2' hlb3 (HOPS.out 3 _ rfl); have k4 := cell_kept hb2' hlb3 (HOPS.out 4 _ rfl); have k5 := cell_kept hb2' hlb3 (HOPS.out 5 _ rfl); simp only [Nat.add_zero] at k0) | (go_at_call 130; refine (HDO.out _ hb2').mono ?_; rintro r w3 ⟨rfl, hb3⟩))
              go_ret2
              exact HFIN.out c d (d + 1) v' V' _ ((SS.out.below hb2').below hb3) I.out.vol HF.out HVd.out (.inr ⟨hc0, hlt, rfl, HNE.out⟩)
            | ok M =>
              have hM : M = wayT fold S l (d + 1) := by
                rcases do_two (space := space) HST.out with h | ⟨h, _⟩
                · rw [hd] at h
                  exact Except.ok.inj h
                · rw [hd] at h
                  cases h
              subst hM
              have I3 := hidD (ID.out rfl hd)
              rw [hd] at HDO
              unfold DoA at HDO
              clear hd IE ID HST
              generalize wayT fold S l (d + 1) = M at *
              go_wp2_with (first | (go_at_call 129; refine HD.out.mono ?_; rintro r w2 ⟨d', rfl, hd', hb2'⟩; obtain rfl := I.out.done hd'; clear hd'; have k0 := cell_kept hb2' hlb3 (HOPS.out 0 _ rfl); have k1 := cell_kept hb2' hlb3 (HOPS.out 1 _ rfl); have k2 := cell_kept hb2' hlb3 (HOPS.out 2 _ rfl); have k3 := cell_kept hb2' hlb3 (HOPS.out 3 _ rfl); have k4 := cell_kept hb2' hlb3 (HOPS.out 4 _ rfl); have k5 := cell_kept hb2' hlb3 (HOPS.out 5 _ rfl); simp only [Nat.add_zero] at k0) | (go_at_call 130; refine (HDO.out _ hb2').mono ?_; rintro r w3 ⟨rfl, v3, hk3, ho3, hg3⟩))
              exact ⟨⟨b1 - 1, d + 1, d + 1, v3, M, by first | rfl | go_num, by omega, hidD ((SS.out.below hb2').did hk3 ho3 hg3), I3⟩, by simp [intOf]; omega⟩
end Go.Proofs.YtpjjagalekolaaaGreatDoor

/- Work at the face: what gives up is caught there, and nothing does. -/
namespace Go.Proofs.YtpjjagalekolaaaGreatDoor
open Go.RowKit
set_option linter.unusedVariables false
set_option linter.unusedSimpArgs false

theorem catch_idle (p q : Addr) (w : World) :
    CallsD Tryz.prog 84 #[.pointer (some p), .pointer (some q)] .returning w fun e u' w' => e = .returned (.tuple #[]) ∧ u' = .returning ∧ w' = w := by
  refine callsD_of_wpS Tryz.func84 rfl fun c₀ cs hu => ?_
  apply wpS_seq
  apply wpS_region
  simp [wpOpsS, go_sem, recoverD, hu, Tryz.ntmps84, Exit.thenS]
  refine wpS_of_wp ?_
  go_wp2
  cases c₀
  simp_all [bodyPostS, results, Tryz.results84]

/-- What caught leaves where nothing gives up: two boxes of its own. -/
theorem caughtW_ok (P0 P1 P2 P3 P4 P5 : Addr) (w : World) (R : World → Prop)
    (hc : Calls Tryz.prog 76 #[.pointer (some P0), .pointer (some P1), .pointer (some P2), .pointer (some P3), .pointer (some P4), .pointer (some P5)] ((w.alloc (.cells #[.int .i64 0] 34)).alloc (.cells #[.int .i64 0] 3)) fun e w' => e = .returned (.tuple #[]) ∧ Boxed w' w.heap.size 34 (.int .i64 0) ∧ Boxed w' (w.heap.size + 1) 3 (.int .i64 0) ∧ R w')
    (hR : ∀ u, R u → R ((u.setCell ⟨w.heap.size, 0, none⟩ (.int .i64 0)).setCell ⟨w.heap.size + 1, 0, none⟩ (.int .i64 0))) :
    Calls Tryz.prog 51 #[.func (.func 76) #[] #[.pointer (some P0), .pointer (some P1), .pointer (some P2), .pointer (some P3), .pointer (some P4), .pointer (some P5)]] w fun e w' => e = .returned (.tuple #[.int .i64 0, .int .i64 0]) ∧ R w' := by
  have hmf : ∀ (fn : Fn) (first cap : Array Value) (w : World), (Instr.makeFunc fn first cap).run Tryz.prog w = .ok (.func fn first cap) w := fun _ _ _ _ => rfl
  go_enter_defers Tryz.func51, Tryz.ntmps51
  go_wp2_with (go_at_call 76; refine hc.mono ?_; rintro e w1 ⟨rfl, b0, b1, hr⟩; have c0 := b0.cell; have f0 := b0.frozen; have c1 := b1.cell; have f1 := b1.frozen)
  refine leaves_cons (f := 84) (args := #[.pointer (some ⟨w.heap.size, 0, none⟩), .pointer (some ⟨w.heap.size + 1, 0, none⟩)]) (by simp) (by simp [go_sem]) ?_
  refine (catch_idle ⟨w.heap.size, 0, none⟩ ⟨w.heap.size + 1, 0, none⟩ _).mono ?_
  rintro e u' w'' ⟨rfl, rfl, rfl⟩
  simp [Leaves, settle, results, Tryz.results51, go_sem, c0, c1]
  exact hR _ hr

set_option maxHeartbeats 4000000 in
set_option maxRecDepth 100000 in
/-- The closure that Work hands over. -/
theorem work1 {u : World} {B vb : Nat} {sv lv : Value} {b : Int} (Q : Int → Int → World → Prop)
    (b0 : Boxed u B 50 (.pointer (some ⟨vb, 0, none⟩))) (b1 : Boxed u (B + 1) 22 sv) (b2 : Boxed u (B + 2) 33 lv) (b3 : Boxed u (B + 3) 3 (.int .i64 b)) (b4 : Boxed u (B + 4) 34 (.int .i64 0)) (b5 : Boxed u (B + 5) 3 (.int .i64 0)) (hsv : ∃ a n c, sv = .slice a n c) (hlv : ∃ a n c, lv = .slice a n c)
    (HW : ∀ u', Below u.heap.size u u' → Calls Tryz.prog 77 #[.pointer (some ⟨vb, 0, none⟩), sv, lv, .int .i64 b] u' fun r w' => ∃ e k : Int, r = .returned (.tuple #[.int .i64 e, .int .i64 k]) ∧ Boxed w' B 50 (.pointer (some ⟨vb, 0, none⟩)) ∧ Boxed w' (B + 1) 22 sv ∧ Boxed w' (B + 2) 33 lv ∧ Boxed w' (B + 3) 3 (.int .i64 b) ∧ Boxed w' (B + 4) 34 (.int .i64 0) ∧ Boxed w' (B + 5) 3 (.int .i64 0) ∧ Q e k w') :
    Calls Tryz.prog 76 #[.pointer (some ⟨B, 0, none⟩), .pointer (some ⟨B + 1, 0, none⟩), .pointer (some ⟨B + 2, 0, none⟩), .pointer (some ⟨B + 3, 0, none⟩), .pointer (some ⟨B + 4, 0, none⟩), .pointer (some ⟨B + 5, 0, none⟩)] u fun r w' => r = .returned (.tuple #[]) ∧ ∃ (e k : Int) (w1 : World), Q e k w1 ∧ Boxed w1 (B + 4) 34 (.int .i64 0) ∧ Boxed w1 (B + 5) 3 (.int .i64 0) ∧ w' = (w1.setCell ⟨B + 4, 0, none⟩ (.int .i64 e)).setCell ⟨B + 5, 0, none⟩ (.int .i64 k) := by
  have c0 := b0.cell
  have c1 := b1.cell
  have c2 := b2.cell
  have c3 := b3.cell
  obtain ⟨sa, sn, sc, rfl⟩ := hsv
  obtain ⟨la, ln, lc, rfl⟩ := hlv
  have HW' := hidD HW
  clear HW
  go_enter Tryz.func76, Tryz.ntmps76
  go_wp2
  go_region_held3 (fun u => u.cell? ⟨B, 0, none⟩ = some (.pointer (some ⟨vb, 0, none⟩)) ∧ u.cell? ⟨B + 1, 0, none⟩ = some (.slice sa sn sc) ∧ u.cell? ⟨B + 2, 0, none⟩ = some (.slice la ln lc) ∧ u.cell? ⟨B + 3, 0, none⟩ = some (.int .i64 b)) (go_keep) (first | (go_at_call 77; refine (HW'.out u.drew ⟨rfl, rfl, rfl, Nat.le_refl _, fun _ _ => rfl⟩).mono ?_; rintro r w1 ⟨e, k, rfl, d0, d1, d2, d3, d4, d5, hq⟩; have y0 := d0.cell; have y1 := d1.cell; have y2 := d2.cell; have y3 := d3.cell; have y4 := d4.cell; have y5 := d5.cell; have f4 := d4.frozen; have f5 := d5.frozen))
  refine bodyPost_end (results_none rfl _ _ _) rfl ?_
  exact ⟨rfl, e, k, w1, hq, d4, d5, rfl⟩

theorem boxed_belowW {w u : World} {B : Nat} {t : TypeId} {v : Value} (h : Boxed w B t v) (hb : Below w.heap.size w u) : Boxed u B t v := (hb.block B h.lt).trans h
theorem boxed_newW (u : World) (t : TypeId) (x : Value) (n : Nat) (h : u.heap.size = n) : Boxed (u.alloc (.cells #[x] t)) n t x := by
  rw [← h]
  exact Boxed.new u t x
theorem gb_setW (w : World) (b : Nat) (v : Value) : w.grownBy (w.setCell ⟨b, 0, none⟩ v) (some b) := gb_set w b 0 v

/-- The boxes of the face and of what catches. -/
abbrev wk6 (w : World) (vb : Nat) (sv lv : Value) (b : Int) : World := (((((w.alloc (.cells #[.pointer (some ⟨vb, 0, none⟩)] 50)).alloc (.cells #[sv] 22)).alloc (.cells #[lv] 33)).alloc (.cells #[.int .i64 b] 3)).alloc (.cells #[.int .i64 0] 34)).alloc (.cells #[.int .i64 0] 3)
abbrev wk8 (w : World) (vb : Nat) (sv lv : Value) (b : Int) : World := ((wk6 w vb sv lv b).alloc (.cells #[.int .i64 0] 34)).alloc (.cells #[.int .i64 0] 3)
structure Bx8 (w u : World) (B vb : Nat) (sv lv : Value) (b : Int) : Prop where
  bel : Below B w u
  size : u.heap.size = B + 8
  b0 : Boxed u B 50 (.pointer (some ⟨vb, 0, none⟩))
  b1 : Boxed u (B + 1) 22 sv
  b2 : Boxed u (B + 2) 33 lv
  b3 : Boxed u (B + 3) 3 (.int .i64 b)
  b4 : Boxed u (B + 4) 34 (.int .i64 0)
  b5 : Boxed u (B + 5) 3 (.int .i64 0)
  b6 : Boxed u (B + 6) 34 (.int .i64 0)
  b7 : Boxed u (B + 7) 3 (.int .i64 0)
theorem Bx8.of (w : World) (vb : Nat) (sv lv : Value) (b : Int) : Bx8 w (wk8 w vb sv lv b) w.heap.size vb sv lv b where
  bel := (((((((((Below.refl _ _).alloc (Nat.le_refl _) _).alloc (by simp) _).alloc (by simp; omega) _).alloc (by simp; omega) _).alloc (by simp; omega) _).alloc (by simp; omega) _).alloc (by simp; omega) _).alloc (by simp; omega) _)
  size := by simp
  b0 := (((((((boxed_newW w 50 _ _ rfl).alloc _).alloc _).alloc _).alloc _).alloc _).alloc _).alloc _
  b1 := ((((((boxed_newW _ 22 _ _ (by simp)).alloc _).alloc _).alloc _).alloc _).alloc _).alloc _
  b2 := (((((boxed_newW _ 33 _ _ (by simp)).alloc _).alloc _).alloc _).alloc _).alloc _
  b3 := ((((boxed_newW _ 3 _ _ (by simp)).alloc _).alloc _).alloc _).alloc _
  b4 := (((boxed_newW _ 34 _ _ (by simp)).alloc _).alloc _).alloc _
  b5 := ((boxed_newW _ 3 _ _ (by simp)).alloc _).alloc _
  b6 := (boxed_newW _ 34 _ _ (by simp)).alloc _
  b7 := boxed_newW _ 3 _ _ (by simp)

theorem WkSt.box {T : TypeId} {w0 : World} {vb : Nat} {fold : Bool} {space : Int} {v0 : Value} {V0 : List EntD} {u : World} {m : Nat} {v : Value} {V : List EntD} (h : WkSt T w0 vb fold space v0 V0 u m v V) (hv : vb < w0.heap.size) {B : Nat} {t : TypeId} {x : Value} (hb : Boxed u B t x) (ht : 56 ≠ t) (hB : w0.heap.size ≤ B) (y : Value) : WkSt T w0 vb fold space v0 V0 (u.setCell ⟨B, 0, none⟩ y) m v V where
  gr := ⟨h.gr.os, h.gr.tape, h.gr.output, by simp; exact h.gr.size, fun k hk hne => ((gb_setW u B y).block k (Nat.lt_of_lt_of_le hk h.gr.size) (by simp; omega)).trans (h.gr.block k hk hne)⟩
  vk := ((gb_setW u B y).block vb h.vk.lt (by simp; omega)).trans h.vk
  row := h.row.imp id (fun o => o.kept (gb_setW u B y) (by
    cases hbk : v.ownBlock with
    | none => exact .inl rfl
    | some g =>
      refine .inr (fun e => ?_)
      obtain ⟨cs, h1⟩ := own_block o hbk
      cases e
      rw [show u.heap[B]? = _ from hb] at h1
      simp only [Option.some.injEq, Obj.cells.injEq] at h1
      exact ht h1.2.1.symm))

/-- What stands in the boxes behind the work. -/
structure WkR (w : World) (B vb : Nat) (fold : Bool) (space : Int) (v : Value) (V S : List EntD) (l : List OpD) (m : Nat) (u : World) (e k : Int) (m' : Nat) (v' : Value) (V' : List EntD) : Prop where
  st : WkSt 89 w vb fold space v V u m' v' V'
  ok : VolOk fold V'
  said : WorkS fold space V S l m e k V' m'
  b4 : Boxed u (B + 4) 34 (.int .i64 e)
  b5 : Boxed u (B + 5) 3 (.int .i64 k)
  b6 : Boxed u (B + 6) 34 (.int .i64 0)
  b7 : Boxed u (B + 7) 3 (.int .i64 0)

set_option maxHeartbeats 4000000 in
set_option maxRecDepth 100000 in
theorem cWork {w : World} {vb : Nat} {v sv lv : Value} {V S : List EntD} {l : List OpD} {fold : Bool} {space : Int} {m : Nat} (hk : Vk 89 w vb v fold space [.string (marksB m)]) (hvb : 2 ≤ vb) (hr : RowAt w v V) (K : VolOk fold V) (h0 : 0 ≤ space) (h1 : space ≤ 9223372036854775807) (hs : RowAt w sv S) (hS : SmallL S) (hg : Gd w) (ho : OpRow w lv l) (hl : l.length ≤ 2000000) (hos : ∀ o ∈ l, o.small) (hml : m ≤ l.length) (b : Int) (hb : 2 * (l.length : Int) + 2 ≤ b) (hb2 : b ≤ 9223372036854775807) :
    Calls Tryz.prog 48 #[.pointer (some ⟨vb, 0, none⟩), sv, lv, .int .i64 b] w fun r w' => WorkA 89 w vb fold space v V S l m r w' := by
  have hlt := hk.lt
  have X8 := Bx8.of w vb sv lv b
  have HW : ∀ u', Below (wk8 w vb sv lv b).heap.size (wk8 w vb sv lv b) u' → Calls Tryz.prog 77 #[.pointer (some ⟨vb, 0, none⟩), sv, lv, .int .i64 b] u' fun r w' => ∃ e k : Int, r = .returned (.tuple #[.int .i64 e, .int .i64 k]) ∧ Boxed w' w.heap.size 50 (.pointer (some ⟨vb, 0, none⟩)) ∧ Boxed w' (w.heap.size + 1) 22 sv ∧ Boxed w' (w.heap.size + 2) 33 lv ∧ Boxed w' (w.heap.size + 3) 3 (.int .i64 b) ∧ Boxed w' (w.heap.size + 4) 34 (.int .i64 0) ∧ Boxed w' (w.heap.size + 5) 3 (.int .i64 0) ∧ (Boxed w' (w.heap.size + 6) 34 (.int .i64 0) ∧ Boxed w' (w.heap.size + 7) 3 (.int .i64 0) ∧ ∃ m' v' V', WkSt 89 w vb fold space v V w' m' v' V' ∧ VolOk fold V' ∧ WorkS fold space V S l m e k V' m') := by
    intro u' hu
    have hbw : Below w.heap.size w u' := X8.bel.trans (hu.mono X8.bel.size)
    refine (vWork (by decide) (hk.below hbw hlt) hvb (hr.below hbw (Nat.le_refl _)) K h0 h1 (hs.below hbw (Nat.le_refl _)) hS (hg.below hbw) (ho.below hbw (Nat.le_refl _)) hl hos hml b hb hb2).mono ?_
    rintro r w' ⟨e, k, m', v', V', rfl, st, ok, said⟩
    have kp : ∀ {B : Nat} {t : TypeId} {x : Value}, Boxed (wk8 w vb sv lv b) B t x → w.heap.size ≤ B → Boxed w' B t x := fun h hB => (boxed_belowW h hu).kept st.gr (by simp; omega)
    exact ⟨e, k, rfl, kp X8.b0 (by omega), kp X8.b1 (by omega), kp X8.b2 (by omega), kp X8.b3 (by omega), kp X8.b4 (by omega), kp X8.b5 (by omega), kp X8.b6 (by omega), kp X8.b7 (by omega), m', v', V', st.from_below hbw, ok, said⟩
  have H44 := work1 (fun e k w' => Boxed w' (w.heap.size + 6) 34 (.int .i64 0) ∧ Boxed w' (w.heap.size + 7) 3 (.int .i64 0) ∧ ∃ m' v' V', WkSt 89 w vb fold space v V w' m' v' V' ∧ VolOk fold V' ∧ WorkS fold space V S l m e k V' m') X8.b0 X8.b1 X8.b2 X8.b3 X8.b4 X8.b5 (by obtain ⟨a, c, e⟩ := hs.val; exact ⟨_, _, _, e⟩) (by obtain ⟨a, c, e⟩ := ho.val; exact ⟨_, _, _, e⟩) HW
  have h6 : (wk6 w vb sv lv b).heap.size = w.heap.size + 6 := by simp
  have HC := caughtW_ok ⟨w.heap.size, 0, none⟩ ⟨w.heap.size + 1, 0, none⟩ ⟨w.heap.size + 2, 0, none⟩ ⟨w.heap.size + 3, 0, none⟩ ⟨w.heap.size + 4, 0, none⟩ ⟨w.heap.size + 5, 0, none⟩ (wk6 w vb sv lv b) (fun u => ∃ e k m' v' V', WkR w w.heap.size vb fold space v V S l m u e k m' v' V') (H44.mono (by
    rintro r w' ⟨rfl, e, k, w1, ⟨d6, d7, m', v', V', st, ok, said⟩, d4, d5, rfl⟩
    rw [h6]
    have g4 := gb_setW w1 (w.heap.size + 4) (.int .i64 e)
    have g5 := gb_setW (w1.setCell ⟨w.heap.size + 4, 0, none⟩ (.int .i64 e)) (w.heap.size + 5) (.int .i64 k)
    have b6 := (d6.kept g4 (by simp)).kept g5 (by simp)
    have b7 := (d7.kept g4 (by simp)).kept g5 (by simp)
    have b5 := d5.kept g4 (by simp)
    exact ⟨rfl, b6, b7, e, k, m', v', V', (st.box hlt d4 (by decide) (by omega) _).box hlt b5 (by decide) (by omega) _, ok, said, (d4.set _).kept g5 (by simp), b5.set _, b6, b7⟩)) (by
    rintro u ⟨e, k, m', v', V', R⟩
    rw [h6]
    have g6 := gb_setW u (w.heap.size + 6) (.int .i64 0)
    have g7 := gb_setW (u.setCell ⟨w.heap.size + 6, 0, none⟩ (.int .i64 0)) (w.heap.size + 6 + 1) (.int .i64 0)
    have b7 := R.b7.kept g6 (by simp)
    exact ⟨e, k, m', v', V', (R.st.box hlt R.b6 (by decide) (by omega) _).box hlt b7 (by decide) (by omega) _, R.ok, R.said, (R.b4.kept g6 (by simp)).kept g7 (by simp), (R.b5.kept g6 (by simp)).kept g7 (by simp), (R.b6.set _).kept g7 (by simp), b7.set _⟩)
  have HCC := hidD HC
  obtain ⟨sa, sc, rfl⟩ := hs.val
  obtain ⟨la, lc, rfl⟩ := ho.val
  clear HC H44 HW X8 hk hr K hs hS hg ho hos h6
  have hmf : ∀ (fn : Fn) (first cap : Array Value) (w : World), (Instr.makeFunc fn first cap).run Tryz.prog w = .ok (.func fn first cap) w := fun _ _ _ _ => rfl
  go_enter Tryz.func48, Tryz.ntmps48
  go_wp2_with (go_at_call 51; refine HCC.out.mono ?_; rintro r w1 ⟨rfl, e, k, m', v', V', R⟩; have k4 := R.b4.cell; have k5 := R.b5.cell)
  go_quiet (fail)
  go_wp2
  go_ret2
  exact ⟨e, k, m', v', V', rfl, R.st.below (below_drewE _ _), R.ok, R.said⟩
end Go.Proofs.YtpjjagalekolaaaGreatDoor

