/- WB, WC, WD, WE, WF: in one text. -/
import Derived.Test.YtehkdjdflgknnaaGreatDoorZHB
import Derived.Test.YtehkdjdflgknnaaGreatDoorY19VZ2
/- Work's own small things: the journal's marks. -/
namespace Go.Proofs.YtehkdjdflgknnaaGreatDoor
open Go.RowKit
set_option linter.unusedVariables false
set_option linter.unusedSimpArgs false

/-- So many marks. -/
def marksB (m : Nat) : ByteArray := ⟨(List.replicate m 43).toArray⟩
theorem marksB_size (m : Nat) : (marksB m).size = m := by simp [marksB, ByteArray.size]
theorem marksB_cut (m k : Nat) (h : k < m) : ((marksB m).extract k (k + 1)).toList = [43] := by
  rw [ba_toList, Lib.extract_data]
  simp [marksB]
  rw [show min 1 (m - k) = 1 by omega]
  rfl
theorem marksB_more (m : Nat) : marksB m ++ ⟨#[43]⟩ = marksB (m + 1) := by
  apply ByteArray.ext
  apply Array.toList_inj.1
  simp [marksB, List.replicate_succ']

set_option maxHeartbeats 1000000 in
theorem marks_any (m ops : Nat) (w : World) (hm : m ≤ ops) (ho : ops ≤ 2000000) :
    Calls Tryz.prog 92 #[.string (marksB m), .int .i64 ops] w fun e w' => e = .returned (.int .i64 m) ∧ w' = w := by
  have hsz := marksB_size m
  have HC := hidD (marksB_cut m)
  generalize marksB m = s at *
  go_enter Tryz.func92, Tryz.ntmps92
  go_wp2
  go_loopw [8] (fun i wr => ∃ k : Nat, k ≤ m ∧ i = .int .i64 k ∧ wr = w) (fun i _ => m - (intOf i).toNat)
  case atStart => exact ⟨0, Nat.zero_le _, rfl, rfl⟩
  case round =>
    obtain ⟨k, hk, rfl, rfl⟩ := hrel
    by_cases hlt : k < m
    · have h1 : ((k : Int) == (ops : Int)) = false := by simp; omega
      have h2 : (!(s.extract k (k + 1)).toList == [43]) = false := by rw [HC.out k hlt]; rfl
      have h3 : (k : Int) + 1 ≤ (s.size : Int) := by omega
      go_wp2
      exact ⟨⟨k + 1, by omega, by go_num, by first | rfl | trivial⟩, by simp [intOf]; omega⟩
    · go_wp2
      go_ret
      exact ⟨by first | rfl | rw [hsz] | (subst hsz; rfl), rfl⟩

theorem Vk.set3 {T : TypeId} {w : World} {vb : Nat} {v : Value} {fold : Bool} {space : Int} {x : Value} (h : Vk T w vb v fold space [x]) (y : Value) : Vk T (w.setCell ⟨vb, 3, none⟩ y) vb v fold space [y] ∧ w.grownBy (w.setCell ⟨vb, 3, none⟩ y) (some vb) := by
  constructor
  · have := heap_setCell_same w vb 3 _ T y h
    rw [Vk, this]; simp
  · exact ⟨rfl, rfl, rfl, by simp, fun k _ hk => heap_setCell_other w ⟨vb, 3, none⟩ k y (fun e => hk (by simp [e]))⟩

set_option maxHeartbeats 4000000 in
set_option maxRecDepth 100000 in
/-- step, where the mark is still to be put. -/
theorem step_mark {T : TypeId} {w : World} {vb : Nat} {v : Value} {fold : Bool} {space : Int} {m : Nat} (hk : Vk T w vb v fold space [.string (marksB m)]) (n : Nat) (o : OpD) (hn : m ≤ n) (hn2 : n ≤ 2000000) :
    Calls Tryz.prog 67 #[.pointer (some ⟨vb, 0, none⟩), .int .i64 n, .agg #[.int .i64 o.kind, .string o.path, .string o.dest, .int .i64 o.id, .int .i64 o.size, .int .i64 o.mode]] w fun r w' => r = .returned (.int .i64 0) ∧ Vk T w' vb v fold space [.string (marksB (m + 1))] ∧ w.grownBy w' (some vb) := by
  obtain ⟨kind, path, dest, id, size, mode⟩ := o
  dsimp only
  have ST : Hid (Ob w ⟨kind, path, dest, id, size, mode⟩ (w.alloc (.cells #[.int .i64 kind, .string path, .string dest, .int .i64 id, .int .i64 size, .int .i64 mode] 58))) := Ob.start w _
  have hlt := hk.lt
  have HK := hidD (hk.below ST.out.bel hlt)
  have c0 := HK.out.vol.c0
  have c3 := HK.out.c3
  have f3 := HK.out.frozen 3
  have hsz := marksB_size m
  have hmo := marksB_more m
  have HK0 := hidD hk
  clear hk
  generalize marksB m = s at *
  generalize marksB (m + 1) = s1 at *
  go_enter Tryz.func67, Tryz.ntmps67
  go_wp2
  go_ret
  obtain ⟨q1, q2⟩ := HK0.out.set3 (.string s1)
  refine ⟨rfl, q1.below ((Below.refl _ _).alloc (Nat.le_refl _) _) q1.lt, ⟨q2.os, q2.tape, q2.output, by simp only [World.size_alloc]; have := q2.size; omega, fun k hk hne => ((World.grownBy_alloc _ _ none).block k (Nat.lt_of_lt_of_le hk q2.size) (by simp)).trans (q2.block k hk hne)⟩⟩
end Go.Proofs.YtehkdjdflgknnaaGreatDoor
/- Work, said plainly: the trees of the way, and what carrying a script out comes to. -/
namespace Go.Proofs.YtehkdjdflgknnaaGreatDoor
open Go.RowKit
set_option linter.unusedVariables false
set_option linter.unusedSimpArgs false

/-- The tree behind the first k operations, where space never lacks. -/
def wayT (fold : Bool) (S : List EntD) (l : List OpD) : Nat → List EntD
  | 0 => S
  | k + 1 => match l[k]? with
    | none => wayT fold S l k
    | some o => match doL fold 9223372036854775807 (wayT fold S l k) o with
      | .ok M => M
      | .error _ => wayT fold S l k
theorem wayT_step {fold : Bool} {S : List EntD} {l : List OpD} {k : Nat} (h : k < l.length) {M : List EntD} (hd : doL fold 9223372036854775807 (wayT fold S l k) l[k] = .ok M) : wayT fold S l (k + 1) = M := by
  rw [wayT, List.getElem?_eq_getElem h]
  simp only [hd]

/-- Carrying out what is left. -/
def seqL (fold : Bool) (space : Int) (V : List EntD) : List OpD → Nat → Int × Nat × List EntD
  | [], i => (0, i, V)
  | o :: l, i => match doL fold space V o with
    | .error c => (c, i, V)
    | .ok M => seqL fold space M l (i + 1)
theorem seq_step {fold : Bool} {space : Int} {V : List EntD} {l : List OpD} {k : Nat} (h : k < l.length) : seqL fold space V (l.drop k) k = match doL fold space V l[k] with | .error c => (c, k, V) | .ok M => seqL fold space M (l.drop (k + 1)) (k + 1) := by
  rw [List.drop_eq_getElem_cons h, seqL]
theorem seq_end {fold : Bool} {space : Int} {V : List EntD} {l : List OpD} : seqL fold space V (l.drop l.length) l.length = (0, l.length, V) := by
  rw [List.drop_length, seqL]

theorem mk_two {fold : Bool} {space : Int} {L M : List EntD} {e : EntD} (h : mkL fold 9223372036854775807 L e = .ok M) : mkL fold space L e = .ok M ∨ (mkL fold space L e = .error 11 ∧ M.length = L.length + 1) := by
  unfold mkL at h ⊢
  split at h
  · cases h
  · rename_i h1
    rw [if_neg h1]
    cases hp : placeL fold L e.pl with
    | none => rw [hp] at h; cases h
    | some p =>
      rw [hp] at h
      dsimp only at h ⊢
      split at h
      · cases h
      · rename_i h2
        rw [if_neg h2]
        split at h
        · cases h
        · rename_i h3
          rw [if_neg h3]
          split at h
          · cases h
          · cases h
            split
            · exact .inr ⟨rfl, by rw [(insL_perm _ _).length_eq]; rfl⟩
            · exact .inl rfl
theorem do_two {fold : Bool} {space : Int} {L M : List EntD} {o : OpD} (h : doL fold 9223372036854775807 L o = .ok M) : doL fold space L o = .ok M ∨ (doL fold space L o = .error 11 ∧ M.length = L.length + 1) := by
  unfold doL at h ⊢
  split
  · rename_i hk; rw [if_pos hk] at h; exact mk_two h
  · rename_i hk; rw [if_neg hk] at h
    split
    · rename_i hk2; rw [if_pos hk2] at h; exact mk_two h
    · rename_i hk2; rw [if_neg hk2] at h
      cases hf : L[atI fold L o.pl]? with
      | none => rw [hf] at h; cases h
      | some e =>
        rw [hf] at h
        dsimp only at h ⊢
        split at h
        · rename_i h7; rw [if_pos h7]; exact .inl h
        · rename_i h7; rw [if_neg h7]
          split at h
          · rename_i h6; rw [if_pos h6]; exact .inl h
          · rename_i h6; rw [if_neg h6]
            split at h
            · cases h
            · rename_i h10; rw [if_neg h10]
              split at h
              · rename_i h5; rw [if_pos h5]; exact mk_two h
              · rename_i h5; rw [if_neg h5]; exact .inl h
theorem do_idle {fold : Bool} {space : Int} {L : List EntD} {o : OpD} (h : doL fold 9223372036854775807 L o = .ok L) : doL fold space L o = .ok L := by
  rcases do_two (space := space) h with h | ⟨_, h⟩
  · exact h
  · omega
theorem do_err4 {fold : Bool} {space : Int} {L : List EntD} {o : OpD} {n : Int} (h : doL fold space L o = .error n) : n ≠ 4 := by
  have mk : ∀ e n, mkL fold space L e = .error n → n ≠ 4 := by
    intro e n h
    unfold mkL at h
    split at h
    · cases h; decide
    · split at h
      · cases h; decide
      · split at h
        · cases h; decide
        · split at h
          · cases h; decide
          · split at h
            · cases h; decide
            · cases h
  unfold doL at h
  split at h
  · exact mk _ _ h
  · split at h
    · exact mk _ _ h
    · split at h
      · cases h; decide
      · split at h
        · cases h
        · split at h
          · unfold renL at h
            split at h
            · cases h; decide
            · split at h
              · cases h; decide
              · split at h
                · cases h; decide
                · split at h
                  · cases h; decide
                  · cases h
          · split at h
            · cases h; decide
            · split at h
              · exact mk _ _ h
              · split at h
                · cases h; decide
                · cases h
theorem try_err4 {fold : Bool} {space : Int} : ∀ (l : List OpD) (L : List EntD) (need : Int) (i : Nat) (c : Int) (k : Nat), tryL fold space L need l i = .error (c, k) → c ≠ 4
  | [], L, need, i, c, k, h => by rw [tryL] at h; cases h
  | o :: l, L, need, i, c, k, h => by
    rw [tryL] at h
    split at h
    · rename_i hd
      cases h
      exact do_err4 hd
    · exact try_err4 l _ _ _ c k h

theorem try_err0 {fold : Bool} {space : Int} : ∀ (l : List OpD) (L : List EntD) (need : Int) (i : Nat) (c : Int) (k : Nat), tryL fold space L need l i = .error (c, k) → c ≠ 0
  | [], L, need, i, c, k, h => by rw [tryL] at h; cases h
  | o :: l, L, need, i, c, k, h => by
    rw [tryL] at h
    split at h
    · rename_i hd
      cases h
      exact do_err hd
    · exact try_err0 l _ _ _ c k h

/-- How many operations are done, as the journal and the tree tell it. -/
def DoneAt (V : List EntD) (W : Nat → List EntD) (m : Nat) (d : Int) : Prop :=
  (V = W m ∧ d = m) ∨ (V ≠ W m ∧ 0 < m ∧ V = W (m - 1) ∧ d = (m : Int) - 1) ∨ (V ≠ W m ∧ (0 < m → V ≠ W (m - 1)) ∧ d = -1)

/-- What the document's Work comes to on a tree V: the error, the place and the tree. -/
def workP (fold : Bool) (space : Int) (V S : List EntD) (l : List OpD) (e : Int) (k : Int) (V' : List EntD) : Prop :=
  match tryP fold 9223372036854775807 S l with
  | .error (c, p) => V' = V ∧ if c = 4 then e = 4 ∧ k = 0 else e = 18 ∧ k = p
  | .ok _ => (V ≠ S ∧ V' = V ∧ e = 16 ∧ k = 0) ∨ (V = S ∧ ∃ n : Nat, k = n ∧ seqL fold space V l 0 = (e, n, V'))
end Go.Proofs.YtehkdjdflgknnaaGreatDoor
/- A script's course, and the trees of its way one by one. -/
namespace Go.Proofs.YtehkdjdflgknnaaGreatDoor
open Go.RowKit
set_option linter.unusedVariables false
set_option linter.unusedSimpArgs false

/-- What course answers, with all its trees. -/
def CrsW (w : World) (fold : Bool) (S : List EntD) (l : List OpD) (x : Except (Int × Int) (List EntD × Int)) (r : Ending) (w' : World) : Prop :=
  match x with
  | .error (c, k) => r = .returned (.tuple #[.slice none 0 0, .int .i64 c, .int .i64 k]) ∧ c ≠ 0 ∧ Below w.heap.size w w'
  | .ok _ => ∃ (g cap : Nat) (vs : List Value), r = .returned (.tuple #[.slice (some ⟨g, 0, none⟩) (l.length + 1) cap, .int .i64 0, .int .i64 0]) ∧ Below w.heap.size w w' ∧ w.heap.size ≤ g ∧ vs.length = l.length + 1 ∧ (∀ (j : Nat) (h : j < vs.length), w'.cell? ⟨g, j, none⟩ = some vs[j]) ∧ (∀ (j : Nat) (h : j < vs.length), RowAt w' vs[j] (wayT fold S l j)) ∧ (∀ j, j ≤ l.length → VolOk fold (wayT fold S l j)) ∧ (∀ (j : Nat) (h : j < l.length), doL fold 9223372036854775807 (wayT fold S l j) l[j] = .ok (wayT fold S l (j + 1)))

theorem way_formG {u : World} {B : Nat} {wv : Value} {vs : List Value} (h : u.ownsRow B 22 1 wv vs.length vs) (hn : 0 < vs.length) : ∃ g cap, wv = .slice (some ⟨g, 0, none⟩) vs.length cap ∧ B ≤ g ∧ ∀ (j : Nat) (h : j < vs.length), u.cell? ⟨g, j, none⟩ = some vs[j] := by
  obtain ⟨g, cap, rfl, hc⟩ := way_form h hn
  exact ⟨g, cap, rfl, (h.lt g rfl).1, hc⟩

/-- The trees so far are those of the way. -/
structure WayI (fold : Bool) (S : List EntD) (l : List OpD) (Ls : List (List EntD)) (k : Nat) (Lk : List EntD) : Prop where
  at_ : ∀ j, j ≤ k → Ls[j]? = some (wayT fold S l j)
  cur : Lk = wayT fold S l k
  ok : ∀ j, j ≤ k → VolOk fold (wayT fold S l j)
  done : ∀ (j : Nat) (h : j < l.length), j < k → doL fold 9223372036854775807 (wayT fold S l j) l[j] = .ok (wayT fold S l (j + 1))
theorem WayI.start {fold : Bool} {S : List EntD} {l : List OpD} (K : VolOk fold S) : WayI fold S l [S] 0 S where
  at_ := fun j hj => by obtain rfl : j = 0 := by omega
                        rfl
  cur := rfl
  ok := fun j hj => by obtain rfl : j = 0 := by omega
                       exact K
  done := fun j h hj => by omega
theorem WayI.next {fold : Bool} {S : List EntD} {l : List OpD} {Ls : List (List EntD)} {k : Nat} {Lk M : List EntD} (I : WayI fold S l Ls k Lk) (hl : Ls.length = k + 1) (hk : k < l.length) (hd : doL fold 9223372036854775807 Lk l[k] = .ok M) (KM : VolOk fold M) : WayI fold S l (Ls ++ [M]) (k + 1) M where
  at_ := fun j hj => by
    have hM := wayT_step hk (by rw [← I.cur]; exact hd)
    by_cases h : j ≤ k
    · rw [List.getElem?_append_left (by omega)]
      exact I.at_ j h
    · obtain rfl : j = k + 1 := by omega
      rw [hM, ← hl]
      simp
  cur := (wayT_step hk (by rw [← I.cur]; exact hd)).symm
  ok := fun j hj => by
    by_cases h : j ≤ k
    · exact I.ok j h
    · obtain rfl : j = k + 1 := by omega
      rw [wayT_step hk (by rw [← I.cur]; exact hd)]
      exact KM
  done := fun j h hj => by
    by_cases h' : j < k
    · exact I.done j h h'
    · obtain rfl : j = k := by omega
      rw [wayT_step hk (by rw [← I.cur]; exact hd), ← I.cur]
      exact hd

set_option maxHeartbeats 8000000 in
set_option maxRecDepth 100000 in
theorem vcourseW {w : World} {sv lv : Value} {L : List EntD} {l : List OpD} (fold : Bool) (hr : RowAt w sv L) (hs : SmallL L) (hg : Gd w) (ho : OpRow w lv l) (hl : l.length ≤ 2000000) (hos : ∀ o ∈ l, o.small) (X : Except (Int × Int) (List EntD × Int)) (hX : tryP fold 9223372036854775807 L l = X) :
    Calls Tryz.prog 47 #[sv, .bool fold, lv] w fun r w' => CrsW w fold L l X r w' := by
  obtain ⟨i0, hi, hz0, hz1, hz2⟩ := info_parts info22
  have HC := hidD (treesCheckF fold hr hs)
  have HW := hidD (fun (u : World) (hu : Below w.heap.size w u) => firstWrongF (hg.below hu) (ho.below hu (Nat.le_refl _)) hl hos)
  have HX := hidD hX
  have HR := hidD hr
  have HO := hidD ho
  have HG := hidD hg
  have HOS := hidD hos
  obtain ⟨sa, sc, rfl⟩ := hr.val
  obtain ⟨la, lc, rfl⟩ := ho.val
  clear hX hr ho hg hos
  cases ht : treeF fold L
  · rw [ht] at HC
    have hX := HX.out
    rw [tryP, if_pos ht] at hX
    subst hX
    clear HX
    unfold CrsW
    go_enter Tryz.func47, Tryz.ntmps47
    go_wp2_with (go_at_call 46; refine HC.out.mono ?_; rintro r w1 ⟨c, k, rfl, hck, hb1⟩; have hcn : (c != 0) = true := (by simp only [bne, hck]; rfl))
    go_ret3
    exact ⟨rfl, by decide, hb1⟩
  · rw [ht] at HC
    have HT := hidD ht
    have hX := HX.out
    rw [tryP, if_neg (by rw [ht]; decide)] at hX
    clear ht
    cases hf : (fwrong l 0).2
    · have hsg := script_good hf
      rw [if_neg (by rw [hf]; decide)] at hX
      rw [hf] at HW
      have HX2 := hidD hX
      have HSG := hidD hsg.2
      have hl4 := hsg.1
      clear hX hsg HX hf
      generalize (fwrong l 0).1 = fa at *
      go_enter Tryz.func47, Tryz.ntmps47
      go_wp2_with (first | (go_at_call 46; refine HC.out.mono ?_; rintro r w1 ⟨c, k, rfl, hck, hb1⟩; have hcn : (c != 0) = false := (by simp only [bne, hck]; rfl)) | (go_at_call 70; refine (HW.out _ hb1).mono ?_; rintro r w2 ⟨rfl, hb2⟩; have u2 := hb1.trans (hb2.mono hb1.size)))
      have s3 := WaySt.start (fold := fold) HR.out u2
      have K0 := tree_vol HT.out
      have hn0 : needL 0 [L] = usedL L := by
        have := (used_le K0).1
        simp only [needL, List.foldl_cons, List.foldl_nil]
        omega
      have I0 := hidD (show VolOk fold L ∧ (∀ N ∈ [L], VolOk fold N) ∧ [L][0]? = some L ∧ tryL fold 9223372036854775807 L (usedL L) l 0 = tryL fold 9223372036854775807 L (needL 0 [L]) (l.drop 0) 0 from ⟨K0, by simpa using K0, rfl, by rw [hn0, List.drop_zero]⟩)
      have J0 := hidD (WayI.start (l := l) K0)
      have S3 := hidD s3
      have hvbs := u2.size
      clear hn0 K0 s3 HC HW hb1 hb2 u2 hcn hck
      generalize hvb : w2.heap.size = vb at *
      go_loopw [14, 40] (fun wv iv wr => ∃ (k : Nat) (vs : List Value) (Ls : List (List EntD)) (v : Value) (Lk : List EntD), k ≤ l.length ∧ iv = .int .i64 k ∧ vs.length = k + 1 ∧ Hid (WaySt w vb fold wr wv vs Ls v Lk) ∧ Hid (VolOk fold Lk ∧ (∀ N ∈ Ls, VolOk fold N) ∧ Ls[k]? = some Lk ∧ tryL fold 9223372036854775807 L (usedL L) l 0 = tryL fold 9223372036854775807 Lk (needL 0 Ls) (l.drop k) k) ∧ Hid (WayI fold L l Ls k Lk)) (fun _ iv _ => l.length - (intOf iv).toNat)
      case atStart => exact ⟨0, _, _, _, _, Nat.zero_le _, rfl, rfl, S3, I0, J0⟩
      case round =>
        clear S3 I0 J0
        obtain ⟨k, vs, Ls, v, Lk, hk, rfl, hvl, S, I, J⟩ := hrel
        by_cases hlk : k < l.length
        · obtain ⟨b2, off2, rfl, _, hlb2, hops⟩ := op_parts HO.out hlk
          have hcw := (hops.below S.out.bel hlb2) k hlk
          have c0 : wr.cell? ⟨b2, off2 + k * 6, none⟩ = some (.int .i64 l[k].kind) := hcw 0 _ rfl
          have c1 := hcw 1 _ rfl
          have c2 := hcw 2 _ rfl
          have c3 := hcw 3 _ rfl
          have c4 := hcw 4 _ rfl
          have c5 := hcw 5 _ rfl
          have hok := HSG.out _ (List.getElem_mem hlk)
          have hsm := HOS.out _ (List.getElem_mem hlk)
          have HTS := hidD (fun need => try_step (fold := fold) (space := 9223372036854775807) (L := Lk) (need := need) hlk)
          have hlL : Ls.length = k + 1 := by have := S.out.len; omega
          have JN := hidD (fun (M : List EntD) (hd : doL fold 9223372036854775807 Lk l[k] = .ok M) (KM : VolOk fold M) => J.out.next hlL hlk hd KM)
          generalize l[k] = o at *
          clear hcw hops
          have S1 := hidD (S.out.below ((Below.refl _ _).alloc (Nat.le_refl _) (.cells #[.int .i64 o.kind, .string o.path, .string o.dest, .int .i64 o.id, .int .i64 o.size, .int .i64 o.mode] 58)))
          have HD := hidD (vDo S1.out.vol (row_of S1.out.bel S1.out.cur) I.out.1 (HG.out.below S1.out.bel) o hok hsm (by decide) (by decide))
          have hsz := S1.out.bel.size
          cases hd : doL fold 9223372036854775807 Lk o with
          | error n =>
            have hn : (n != 0) = true := by simpa using do_err hd
            have hXE : X = .error (n, (k : Int)) := by
              rw [← HX2.out, I.out.2.2.2, HTS.out, hd]
            have HXE := hidD hXE
            have hn0 := do_err hd
            rw [hd] at HD
            unfold DoA at HD
            clear hXE hd HX2
            go_wp2_with (go_at_call 39; refine HD.out.mono ?_; rintro r w5 ⟨rfl, hb5⟩)
            go_ret3
            rw [HXE.out]
            exact ⟨rfl, hn0, (S1.out.below hb5).bel⟩
          | ok M =>
            have KM := do_ok I.out.1 (okOp_good hok) hd
            have I2 := hidD (show VolOk fold M ∧ (∀ N ∈ Ls ++ [M], VolOk fold N) ∧ (Ls ++ [M])[k + 1]? = some M ∧ tryL fold 9223372036854775807 L (usedL L) l 0 = tryL fold 9223372036854775807 M (needL 0 (Ls ++ [M])) (l.drop (k + 1)) (k + 1) from ⟨KM, fun N hN => by
                rcases List.mem_append.1 hN with h | h
                · exact I.out.2.1 N h
                · rw [List.mem_singleton.1 h]; exact KM, by rw [← hvl, S.out.len]; simp, by rw [I.out.2.2.2, HTS.out, hd, needL_snoc]⟩)
            have J2 := hidD (JN.out M hd KM)
            rw [hd] at HD
            unfold DoA at HD
            clear hd KM HTS JN J
            go_wp2_with (first | (go_at_call 39; refine HD.out.mono ?_; rintro r w5 ⟨rfl, v5, hk5, ho5, hg5⟩; obtain ⟨a5, n5, q5, hv5⟩ := own_shape ho5; subst hv5; have S5 := S1.out.did hk5 ho5 hg5; have e0 := hk5.vol.c0; have hw5 := S5.bel.size) | (at_builtin; refine wpList_append_own _ rfl (.tmp 51) (.tmp 54) 81 rfl w.heap.size 22 i0 _ 1 24 Tryz.underlying81 hi hz0 hz1 hz2 rfl (by decide) _ _ _ rfl (S5.way.alloc _) ⟨_, 0, none⟩ 1 1 [.slice a5 n5 q5] rfl rfl (cell_new22 w5 _) (by intro x hx; rw [List.mem_singleton.1 hx]; rfl) (by unfold maxLen; omega) (by omega) (by simp only [World.size_alloc]; omega) ?_; intro v6 w6 hown6 hg6 _))
            exact ⟨⟨k + 1, _, _, _, _, by omega, by go_num, by rw [List.length_append, hvl]; rfl, hidD ((S5.below ((Below.refl _ _).alloc (Nat.le_refl _) _)).put hown6 hg6), I2, J2⟩, by simp [intOf]; omega⟩
        · obtain ⟨g, cap, hwv, hgg, hcells⟩ := way_formG S.out.way (by omega)
          subst hwv
          obtain rfl : k = l.length := by omega
          have hXE : X = .ok (Lk, needL 0 Ls) := by
            rw [← HX2.out, I.out.2.2.2, List.drop_length, tryL]
          have HXE := hidD hXE
          have HCE := hidD hcells
          clear hXE HX2 hcells
          go_wp2
          go_ret3
          rw [HXE.out]
          have hL := S.out.len
          refine ⟨g, cap, vs, by rw [hvl]; rfl, S.out.bel, hgg, hvl, HCE.out, fun j h1 => ?_, J.out.ok, fun j h => J.out.done j h h⟩
          have h2 : j < Ls.length := by omega
          have hj := row_of S.out.bel (S.out.rows j h1 h2)
          have e : Ls[j] = wayT fold L l j := by
            have := J.out.at_ j (by omega)
            rw [List.getElem?_eq_getElem h2] at this
            exact Option.some.inj this
          rwa [e] at hj
    · rw [if_pos hf] at hX
      rw [hf] at HW
      clear HX hf
      generalize (fwrong l 0).1 = fa at *
      subst hX
      unfold CrsW
      go_enter Tryz.func47, Tryz.ntmps47
      go_wp2_with (first | (go_at_call 46; refine HC.out.mono ?_; rintro r w1 ⟨c, k, rfl, hck, hb1⟩; have hcn : (c != 0) = false := (by simp only [bne, hck]; rfl)) | (go_at_call 70; refine (HW.out _ hb1).mono ?_; rintro r w2 ⟨rfl, hb2⟩; have u2 := hb1.trans (hb2.mono hb1.size)))
      go_ret3
      exact ⟨rfl, by decide, u2⟩
end Go.Proofs.YtehkdjdflgknnaaGreatDoor
/- Two rows of entries, equal or not: the program's comparison and the document's. -/
namespace Go.Proofs.YtehkdjdflgknnaaGreatDoor
open Go.RowKit
set_option linter.unusedVariables false
set_option linter.unusedSimpArgs false

set_option maxHeartbeats 2000000 in
set_option maxRecDepth 100000 in
theorem neq75 (op pp : ByteArray) (od pd : Bool) (oi os om pi ps pm : Int) (h : ¬ (op = pp ∧ od = pd ∧ oi = pi ∧ os = ps ∧ om = pm)) (u : World) : (binOp .neq 75 (.agg #[.string op, .bool od, .int .i64 oi, .int .i64 os, .int .i64 om]) (.agg #[.string pp, .bool pd, .int .i64 pi, .int .i64 ps, .int .i64 pm])).run Tryz.prog u = .ok (.bool true) u := by
  have hp : op.toList = pp.toList → op = pp := fun e => by rw [ba_toList, ba_toList] at e; exact ByteArray.ext (Array.toList_inj.1 e)
  simp only [go_sem]
  simp [go_sem]
  exact fun e0 e1 e2 e3 e4 => h ⟨hp e0, e1, e2, e3, e4⟩
set_option maxHeartbeats 2000000 in
set_option maxRecDepth 100000 in
theorem vEq_row (b1 o1 c1 b2 o2 c2 : Nat) (M N : List EntD) (w : World) (hl : M.length ≤ 2000000) (hn : N.length = M.length) (h1 : EntsAt w b1 o1 M) (h2 : EntsAt w b2 o2 N) :
    Calls Tryz.prog 93 #[.slice (some ⟨b1, o1, none⟩) M.length c1, .slice (some ⟨b2, o2, none⟩) M.length c2] w fun e w' => ∃ b : Bool, e = .returned (.bool b) ∧ (b = true ↔ M = N) ∧ ∃ n, w' = w.drewN n := by
  have hne : ((M.length : Int) != (M.length : Int)) = false := by simp
  go_enter Tryz.func93, Tryz.ntmps93
  go_wp2
  go_loopw [13] (fun i wr => ∃ k n : Nat, k ≤ M.length ∧ i = .int .i64 k ∧ wr = w.drewN n ∧ ∀ j, j < k → M[j]? = N[j]?) (fun i _ => M.length - (intOf i).toNat)
  case atStart => exact ⟨0, 0, Nat.zero_le _, rfl, rfl, fun j hj => by omega⟩
  case round =>
    obtain ⟨k, n, hk, rfl, rfl, hsame⟩ := hrel
    by_cases hlt : k < M.length
    · have a := h1 k hlt
      have b := h2 k (by omega)
      have hlt' : (k : Int) < (M.length : Int) := by omega
      have HK := List.getElem?_eq_getElem hlt
      have HK2 := List.getElem?_eq_getElem (l := N) (i := k) (by omega)
      generalize M[k] = o at *
      generalize N[k]'(by omega) = p at *
      obtain ⟨op, od, oi, os, om⟩ := o
      obtain ⟨pp, pd, pi, ps, pm⟩ := p
      have a0 := a 0 _ rfl
      have a1 := a 1 _ rfl
      have a2 := a 2 _ rfl
      have a3 := a 3 _ rfl
      have a4 := a 4 _ rfl
      have b0 := b 0 _ rfl
      have b1 := b 1 _ rfl
      have b2 := b 2 _ rfl
      have b3 := b 3 _ rfl
      have b4 := b 4 _ rfl
      simp only [Nat.add_zero] at a0 b0
      clear a b
      by_cases heq : op = pp ∧ od = pd ∧ oi = pi ∧ os = ps ∧ om = pm
      · obtain ⟨rfl, rfl, rfl, rfl, rfl⟩ := heq
        go_wp2
        go_quiet (fail)
        go_wp2
        refine ⟨⟨k + 1, _, by omega, by go_num, rfl, fun j hj => ?_⟩, by simp [intOf]; omega⟩
        by_cases hjk : j < k
        · exact hsame j hjk
        · obtain rfl : j = k := by omega
          rw [HK, HK2]
      · have hnq := neq75 op pp od pd oi os om pi ps pm heq
        go_wp2
        go_quiet (fail)
        go_wp2
        go_ret
        refine ⟨false, rfl, ⟨fun h => (by cases h), fun h => absurd ?_ heq⟩, _, World.drewN_drewN ..⟩
        rw [h, HK2] at HK
        simp only [Option.some.injEq, EntD.mk.injEq] at HK
        exact ⟨HK.1.symm, HK.2.1.symm, HK.2.2.1.symm, HK.2.2.2.1.symm, HK.2.2.2.2.symm⟩
    · go_wp2
      go_ret
      exact ⟨true, rfl, ⟨fun _ => List.ext_getElem? (fun j => by by_cases hj : j < M.length; exact hsame j (by omega); rw [List.getElem?_eq_none (by omega), List.getElem?_eq_none (by omega)]), fun _ => rfl⟩, n, rfl⟩

set_option maxHeartbeats 1000000 in
theorem vEq_len (a1 a2 : Option Addr) (n1 n2 c1 c2 : Nat) (h : n1 ≠ n2) (w : World) :
    Calls Tryz.prog 93 #[.slice a1 n1 c1, .slice a2 n2 c2] w fun e w' => e = .returned (.bool false) ∧ w' = w := by
  have hne : ((n1 : Int) != (n2 : Int)) = true := by simp; omega
  go_enter Tryz.func93, Tryz.ntmps93
  go_wp2
  go_ret
  exact ⟨rfl, rfl⟩
set_option maxHeartbeats 1000000 in
theorem vEq_0 (a1 a2 : Option Addr) (c1 c2 : Nat) (w : World) :
    Calls Tryz.prog 93 #[.slice a1 0 c1, .slice a2 0 c2] w fun e w' => e = .returned (.bool true) ∧ w' = w := by
  go_enter Tryz.func93, Tryz.ntmps93
  go_wp2
  refine wp_loop_rounds 1 ?_
  rw [rounds_succ]
  go_wp2
  go_ret
  exact ⟨rfl, rfl⟩
theorem vEq {w : World} {v1 v2 : Value} {M N : List EntD} (h1 : RowAt w v1 M) (h2 : RowAt w v2 N) (hl : M.length ≤ 2000000) :
    Calls Tryz.prog 93 #[v1, v2] w fun e w' => ∃ b : Bool, e = .returned (.bool b) ∧ (b = true ↔ M = N) ∧ ∃ n, w' = w.drewN n := by
  by_cases hn : M.length = N.length
  · by_cases h0 : M.length = 0
    · obtain ⟨a1, c1, rfl⟩ := h1.val
      obtain ⟨a2, c2, rfl⟩ := h2.val
      have e1 : M = [] := List.length_eq_zero_iff.1 h0
      have e2 : N = [] := List.length_eq_zero_iff.1 (by omega)
      subst e1
      subst e2
      exact (vEq_0 a1 a2 c1 c2 w).mono (by rintro e w' ⟨rfl, rfl⟩; exact ⟨true, rfl, by simp, 0, rfl⟩)
    · cases h1 with
      | nil => exact absurd rfl h0
      | row b1 o1 c1 l hb1 hc1 hm1 e1 =>
        cases h2 with
        | nil => exact absurd hn h0
        | row b2 o2 c2 l hb2 hc2 hm2 e2 =>
          rw [← hn]
          exact vEq_row b1 o1 c1 b2 o2 c2 M N w hl hn.symm e1 e2
  · obtain ⟨a1, c1, rfl⟩ := h1.val
    obtain ⟨a2, c2, rfl⟩ := h2.val
    exact (vEq_len a1 a2 _ _ c1 c2 hn w).mono (by rintro e w' ⟨rfl, rfl⟩; exact ⟨false, rfl, ⟨fun h => (by cases h), fun h => absurd (congrArg List.length h) hn⟩, 0, rfl⟩)

set_option maxHeartbeats 2000000 in
set_option maxRecDepth 100000 in
theorem rEq_row (b1 o1 c1 b2 o2 c2 : Nat) (M N : List EntD) (w : World) (hl : M.length ≤ 2000000) (hn : N.length = M.length) (h1 : EntsAt w b1 o1 M) (h2 : EntsAt w b2 o2 N) :
    Calls Tryz.prog 11 #[.slice (some ⟨b1, o1, none⟩) M.length c1, .slice (some ⟨b2, o2, none⟩) M.length c2] w fun e w' => ∃ b : Bool, e = .returned (.bool b) ∧ (b = true ↔ M = N) ∧ ∃ n, w' = w.drewN n := by
  have hne : ((M.length : Int) != (M.length : Int)) = false := by simp
  go_enter Tryz.func11, Tryz.ntmps11
  go_wp2
  go_loopw [5] (fun i wr => ∃ k n : Nat, k ≤ M.length ∧ i = .int .i64 k ∧ wr = w.drewN n ∧ ∀ j, j < k → M[j]? = N[j]?) (fun i _ => M.length - (intOf i).toNat)
  case atStart => exact ⟨0, 0, Nat.zero_le _, rfl, rfl, fun j hj => by omega⟩
  case round =>
    obtain ⟨k, n, hk, rfl, rfl, hsame⟩ := hrel
    by_cases hlt : k < M.length
    · have a := h1 k hlt
      have b := h2 k (by omega)
      have hlt' : (k : Int) < (M.length : Int) := by omega
      have HK := List.getElem?_eq_getElem hlt
      have HK2 := List.getElem?_eq_getElem (l := N) (i := k) (by omega)
      generalize M[k] = o at *
      generalize N[k]'(by omega) = p at *
      obtain ⟨op, od, oi, os, om⟩ := o
      obtain ⟨pp, pd, pi, ps, pm⟩ := p
      have a0 := a 0 _ rfl
      have a1 := a 1 _ rfl
      have a2 := a 2 _ rfl
      have a3 := a 3 _ rfl
      have a4 := a 4 _ rfl
      have b0 := b 0 _ rfl
      have b1 := b 1 _ rfl
      have b2 := b 2 _ rfl
      have b3 := b 3 _ rfl
      have b4 := b 4 _ rfl
      simp only [Nat.add_zero] at a0 b0
      clear a b
      by_cases heq : op = pp ∧ od = pd ∧ oi = pi ∧ os = ps ∧ om = pm
      · obtain ⟨rfl, rfl, rfl, rfl, rfl⟩ := heq
        go_wp2
        go_quiet (fail)
        go_wp2
        refine ⟨⟨k + 1, _, by omega, by go_num, rfl, fun j hj => ?_⟩, by simp [intOf]; omega⟩
        by_cases hjk : j < k
        · exact hsame j hjk
        · obtain rfl : j = k := by omega
          rw [HK, HK2]
      · have hnq := neq75 op pp od pd oi os om pi ps pm heq
        go_wp2
        go_quiet (fail)
        go_wp2
        go_ret
        refine ⟨false, rfl, ⟨fun h => (by cases h), fun h => absurd ?_ heq⟩, _, World.drewN_drewN ..⟩
        rw [h, HK2] at HK
        simp only [Option.some.injEq, EntD.mk.injEq] at HK
        exact ⟨HK.1.symm, HK.2.1.symm, HK.2.2.1.symm, HK.2.2.2.1.symm, HK.2.2.2.2.symm⟩
    · go_wp2
      go_ret
      exact ⟨true, rfl, ⟨fun _ => List.ext_getElem? (fun j => by by_cases hj : j < M.length; exact hsame j (by omega); rw [List.getElem?_eq_none (by omega), List.getElem?_eq_none (by omega)]), fun _ => rfl⟩, n, rfl⟩

set_option maxHeartbeats 1000000 in
theorem rEq_len (a1 a2 : Option Addr) (n1 n2 c1 c2 : Nat) (h : n1 ≠ n2) (w : World) :
    Calls Tryz.prog 11 #[.slice a1 n1 c1, .slice a2 n2 c2] w fun e w' => e = .returned (.bool false) ∧ w' = w := by
  have hne : ((n1 : Int) != (n2 : Int)) = true := by simp; omega
  go_enter Tryz.func11, Tryz.ntmps11
  go_wp2
  go_ret
  exact ⟨rfl, rfl⟩
set_option maxHeartbeats 1000000 in
theorem rEq_0 (a1 a2 : Option Addr) (c1 c2 : Nat) (w : World) :
    Calls Tryz.prog 11 #[.slice a1 0 c1, .slice a2 0 c2] w fun e w' => e = .returned (.bool true) ∧ w' = w := by
  go_enter Tryz.func11, Tryz.ntmps11
  go_wp2
  refine wp_loop_rounds 1 ?_
  rw [rounds_succ]
  go_wp2
  go_ret
  exact ⟨rfl, rfl⟩
theorem rEq {w : World} {v1 v2 : Value} {M N : List EntD} (h1 : RowAt w v1 M) (h2 : RowAt w v2 N) (hl : M.length ≤ 2000000) :
    Calls Tryz.prog 11 #[v1, v2] w fun e w' => ∃ b : Bool, e = .returned (.bool b) ∧ (b = true ↔ M = N) ∧ ∃ n, w' = w.drewN n := by
  by_cases hn : M.length = N.length
  · by_cases h0 : M.length = 0
    · obtain ⟨a1, c1, rfl⟩ := h1.val
      obtain ⟨a2, c2, rfl⟩ := h2.val
      have e1 : M = [] := List.length_eq_zero_iff.1 h0
      have e2 : N = [] := List.length_eq_zero_iff.1 (by omega)
      subst e1
      subst e2
      exact (rEq_0 a1 a2 c1 c2 w).mono (by rintro e w' ⟨rfl, rfl⟩; exact ⟨true, rfl, by simp, 0, rfl⟩)
    · cases h1 with
      | nil => exact absurd rfl h0
      | row b1 o1 c1 l hb1 hc1 hm1 e1 =>
        cases h2 with
        | nil => exact absurd hn h0
        | row b2 o2 c2 l hb2 hc2 hm2 e2 =>
          rw [← hn]
          exact rEq_row b1 o1 c1 b2 o2 c2 M N w hl hn.symm e1 e2
  · obtain ⟨a1, c1, rfl⟩ := h1.val
    obtain ⟨a2, c2, rfl⟩ := h2.val
    exact (rEq_len a1 a2 _ _ c1 c2 hn w).mono (by rintro e w' ⟨rfl, rfl⟩; exact ⟨false, rfl, ⟨fun h => (by cases h), fun h => absurd (congrArg List.length h) hn⟩, 0, rfl⟩)
end Go.Proofs.YtehkdjdflgknnaaGreatDoor
/- How far the journal tells; a step that does an operation; what stays where a volume changes. -/
namespace Go.Proofs.YtehkdjdflgknnaaGreatDoor
open Go.RowKit
set_option linter.unusedVariables false
set_option linter.unusedSimpArgs false

set_option maxHeartbeats 4000000 in
set_option maxRecDepth 100000 in
theorem vdone_of {w : World} {vb g cap n m : Nat} {a0 : Option Addr} {l0 k0 : Nat} {s : ByteArray} {vs : List Value} {V : List EntD} {W : Nat → List EntD} (c0 : w.cell? ⟨vb, 0, none⟩ = some (.slice a0 l0 k0)) (c3 : w.cell? ⟨vb, 3, none⟩ = some (.string s)) (hlt0 : vb < w.heap.size) (hlt1 : g < w.heap.size) (hm : m ≤ n) (hn : n ≤ 2000000) (hlen : vs.length = n + 1) (hcell : ∀ (j : Nat) (h : j < vs.length), w.cell? ⟨g, j, none⟩ = some vs[j]) (hvs : ∀ (j : Nat) (h : j < vs.length), ∃ a k c, vs[j] = .slice a k c)
    (HM : Calls Tryz.prog 92 #[.string s, .int .i64 n] w fun e w' => e = .returned (.int .i64 m) ∧ w' = w)
    (HE : ∀ (j : Nat) (h : j < vs.length) (u : World), Below w.heap.size w u → Calls Tryz.prog 93 #[.slice a0 l0 k0, vs[j]] u fun e w' => ∃ b : Bool, e = .returned (.bool b) ∧ (b = true ↔ V = W j) ∧ Below u.heap.size u w') :
    Calls Tryz.prog 66 #[.pointer (some ⟨vb, 0, none⟩), .slice (some ⟨g, 0, none⟩) (n + 1) cap] w fun r w' => ∃ d : Int, r = .returned (.int .i64 d) ∧ DoneAt V W m d ∧ Below w.heap.size w w' := by
  have x0 := hcell m (by omega)
  have E0 := HE m (by omega)
  obtain ⟨am, lm, km, hvm⟩ := hvs m (by omega)
  rw [hvm] at x0 E0
  clear hvm
  by_cases hm0 : m = 0
  · subst hm0
    clear hcell hvs HE
    go_enter Tryz.func66, Tryz.ntmps66
    go_wp2_with (go_at_call 92; refine HM.mono ?_; rintro e w' ⟨rfl, hw⟩; rw [hw]; clear hw w')
    refine wp_loop_rounds 2 ?_
    rw [rounds_succ]
    go_wp2
    go_region_held3 (fun u => u.cell? ⟨vb, 0, none⟩ = some (.slice a0 l0 k0) ∧ u.cell? ⟨g, 0, none⟩ = some (.slice am lm km)) (go_keep) (first | (go_at_call 93; refine (E0 w.drew ⟨rfl, rfl, rfl, Nat.le_refl _, fun _ _ => rfl⟩).mono ?_; rintro e w1 ⟨b, rfl, hb, hb1⟩; have y0 := cell_kept hb1 hlt0 c0; have y1 := cell_kept hb1 hlt1 x0))
    have hb2 : Below w.heap.size w w1 := ⟨hb1.os, hb1.tape, hb1.output, hb1.size, hb1.block⟩
    cases b
    · go_wp2
      rw [rounds_succ]
      go_wp2
      go_ret
      exact ⟨-1, rfl, .inr (.inr ⟨fun h => by simp [h] at hb, fun h => by omega, rfl⟩), hb2⟩
    · go_wp2
      go_ret
      exact ⟨0, rfl, .inl ⟨by simpa using hb, rfl⟩, hb2⟩
  · have x1 := hcell (m - 1) (by omega)
    have E1 := HE (m - 1) (by omega)
    obtain ⟨an, ln, kn, hvn⟩ := hvs (m - 1) (by omega)
    rw [hvn] at x1 E1
    clear hvn hcell hvs HE
    obtain ⟨p, hp⟩ : ∃ p, m = p + 1 := ⟨m - 1, by omega⟩
    have hp1 : m - 1 = p := by omega
    rw [hp1] at x1 E1
    have em : (m : Int) - 1 = (p : Int) := by omega
    have hmx : (if 0 < p then (p : Int) else 0) = p := by split <;> omega
    have hm1 : (0 : Int) ≤ (m : Int) := by omega
    have hm2 : (m : Int) < (n : Int) + 1 := by omega
    have hm3 : (p : Int) ≤ (m : Int) := by omega
    have hm4 : (p : Int) < (n : Int) + 1 := by omega
    have hm5 : (0 : Int) ≤ (p : Int) := by omega
    have hm6 : ¬ ((p : Int) ≤ (p : Int) - 1) := by omega
    have HP := hidD (And.intro hp hp1)
    clear hm0 hp hp1
    go_enter Tryz.func66, Tryz.ntmps66
    go_wp2_with (go_at_call 92; refine HM.mono ?_; rintro e w' ⟨rfl, hw⟩; rw [hw]; clear hw w')
    refine wp_loop_rounds 3 ?_
    rw [rounds_succ]
    go_wp2
    go_region_held3 (fun u => u.cell? ⟨vb, 0, none⟩ = some (.slice a0 l0 k0) ∧ u.cell? ⟨g, m, none⟩ = some (.slice am lm km)) (go_keep) (first | (go_at_call 93; refine (E0 w.drew ⟨rfl, rfl, rfl, Nat.le_refl _, fun _ _ => rfl⟩).mono ?_; rintro e w1 ⟨b, rfl, hb, hb1⟩; have y0 := cell_kept hb1 hlt0 c0; have y1 := cell_kept hb1 hlt1 x0))
    have hb2 : Below w.heap.size w w1 := ⟨hb1.os, hb1.tape, hb1.output, hb1.size, hb1.block⟩
    cases b
    · have z1 := cell_kept hb1 hlt1 x1
      have hne : V ≠ W m := fun h => by simp [h] at hb
      have HNE := hidD hne
      clear hb hne
      go_wp2
      rw [rounds_succ]
      go_wp2
      go_region_held3 (fun u => u.cell? ⟨vb, 0, none⟩ = some (.slice a0 l0 k0) ∧ u.cell? ⟨g, p, none⟩ = some (.slice an ln kn)) (go_keep) (first | (go_at_call 93; refine (E1 w1.drew ⟨hb2.os, hb2.tape, hb2.output, hb2.size, hb2.block⟩).mono ?_; rintro e w2 ⟨b, rfl, hc, hb3⟩; have y2 := cell_kept hb3 (Nat.lt_of_lt_of_le hlt0 hb2.size) y0; have y3 := cell_kept hb3 (Nat.lt_of_lt_of_le hlt1 hb2.size) z1))
      have hb4 : Below w.heap.size w w2 := hb2.trans (Below.mono ⟨hb3.os, hb3.tape, hb3.output, hb3.size, hb3.block⟩ hb2.size)
      cases b
      · go_wp2
        rw [rounds_succ]
        go_wp2
        go_ret
        exact ⟨-1, rfl, .inr (.inr ⟨HNE.out, fun _ h => by rw [HP.out.2] at h; simp [← h] at hc, rfl⟩), hb4⟩
      · go_wp2
        go_ret
        exact ⟨p, rfl,   .inr (.inl ⟨HNE.out, by have := HP.out.1; omega, by rw [HP.out.2]; simpa using hc, em.symm⟩), hb4⟩
    · go_wp2
      go_ret
      exact ⟨m, rfl, .inl ⟨by simpa using hb, rfl⟩, hb2⟩

theorem vdone {T : TypeId} {w : World} {vb g cap n m : Nat} {v : Value} {fold : Bool} {space : Int} {vs : List Value} {V : List EntD} {W : Nat → List EntD} (hk : Vk T w vb v fold space [.string (marksB m)]) (hr : RowAt w v V) (hV : V.length ≤ 2000000) (hm : m ≤ n) (hn : n ≤ 2000000) (hlen : vs.length = n + 1) (hlt1 : g < w.heap.size) (hcell : ∀ (j : Nat) (h : j < vs.length), w.cell? ⟨g, j, none⟩ = some vs[j]) (rows : ∀ (j : Nat) (h : j < vs.length), RowAt w vs[j] (W j)) :
    Calls Tryz.prog 66 #[.pointer (some ⟨vb, 0, none⟩), .slice (some ⟨g, 0, none⟩) (n + 1) cap] w fun r w' => ∃ d : Int, r = .returned (.int .i64 d) ∧ DoneAt V W m d ∧ Below w.heap.size w w' := by
  have c0 := hk.vol.c0
  have c3 := hk.c3
  obtain ⟨a0, k0, rfl⟩ := hr.val
  exact vdone_of c0 c3 hk.lt hlt1 hm hn hlen hcell (fun j h => by obtain ⟨a, c, e⟩ := (rows j h).val; exact ⟨_, _, _, e⟩) (marks_any m n w hm hn) (fun j h u hu => (vEq (hr.below hu (Nat.le_refl _)) ((rows j h).below hu (Nat.le_refl _)) hV).mono (by rintro e w' ⟨b, rfl, hb, q, rfl⟩; exact ⟨b, rfl, hb, below_drewE _ _⟩))

set_option maxHeartbeats 4000000 in
set_option maxRecDepth 100000 in
/-- step, where the mark is there. -/
theorem step_do {T : TypeId} {u : World} {vb : Nat} {v : Value} {V : List EntD} {fold : Bool} {space : Int} {m : Nat} (hk : Vk T u vb v fold space [.string (marksB m)]) (hr : RowAt u v V) (K : VolOk fold V) (hg : Gd u) (o : OpD) (hok : okOp o = true) (hsm : o.small) (h0 : 0 ≤ space) (h1 : space ≤ 9223372036854775807) (n : Nat) (hn : n < m) (hm : m ≤ 2000000) :
    Calls Tryz.prog 67 #[.pointer (some ⟨vb, 0, none⟩), .int .i64 n, .agg #[.int .i64 o.kind, .string o.path, .string o.dest, .int .i64 o.id, .int .i64 o.size, .int .i64 o.mode]] u fun r w' => DoA T u vb fold space [.string (marksB m)] (doL fold space V o) r w' := by
  have HD := hidD (fun (w1 : World) (hb : Below u.heap.size u w1) => vDoT_good (hk.below hb hk.lt) (hr.below hb (Nat.le_refl _)) K (hg.below hb) o hok hsm h0 h1)
  have hlt := hk.lt
  obtain ⟨kind, path, dest, id, size, mode⟩ := o
  dsimp only at *
  have ST : Hid (Ob u ⟨kind, path, dest, id, size, mode⟩ (u.alloc (.cells #[.int .i64 kind, .string path, .string dest, .int .i64 id, .int .i64 size, .int .i64 mode] 58))) := Ob.start u _
  have HK := hidD (hk.below ST.out.bel hlt)
  have c0 := HK.out.vol.c0
  have c3 := HK.out.c3
  have hsz := marksB_size m
  clear hk hr K hg HK
  generalize doL fold space V ⟨kind, path, dest, id, size, mode⟩ = X at *
  generalize marksB m = s at *
  go_enter Tryz.func67, Tryz.ntmps67
  go_wp2_with (go_at_call 39; refine (HD.out _ ST.out.bel).mono ?_; intro r w1 hd; obtain ⟨k, hr⟩ := hd.retD; subst hr)
  go_ret
  exact DoA.from_below ST.out.bel hd

theorem cell_lt {w : World} {b o : Nat} {v : Value} (h : w.cell? ⟨b, o, none⟩ = some v) : b < w.heap.size := by
  by_cases hb : b < w.heap.size
  · exact hb
  · simp [World.cell?, Array.getElem?_eq_none (show w.heap.size ≤ b by omega)] at h
theorem done_neg {V : List EntD} {W : Nat → List EntD} {m : Nat} {d0 d : Int} (h0 : DoneAt V W m d0) (hn : d0 = -1) (h : DoneAt V W m d) : d = -1 := by
  rcases h0 with ⟨_, e⟩ | ⟨_, p, _, e⟩ | ⟨n1, n2, _⟩
  · omega
  · omega
  · rcases h with ⟨e, _⟩ | ⟨_, p, e, _⟩ | ⟨_, _, e⟩
    · exact absurd e n1
    · exact absurd e (n2 p)
    · exact e
theorem RowAt.grown {T : TypeId} {w u : World} {vb : Nat} {v v' : Value} {L : List EntD} {fold : Bool} {space : Int} {rest : List Value} (h : RowAt w v' L) (k : Vk T w vb v fold space rest) (hr : rest.length ≤ 1) (hg : w.grownBy u (some vb)) : RowAt u v' L := by
  cases h with
  | nil => exact .nil
  | row b off cap l hlt hc hm h =>
    refine .row b off cap L (Nat.lt_of_lt_of_le hlt hg.size) hc hm ?_
    by_cases hb : b = vb
    · subst hb
      intro i hi
      exfalso
      have hc4 := h i hi 4 _ rfl
      rw [Lib.cell_of_heap k, List.getElem?_toArray, List.getElem?_eq_none (by simp only [List.length_cons]; omega)] at hc4
      cases hc4
    · exact fun i hi j x hx => hg.cell (h i hi j x hx) (by simpa using hb)
theorem OpRow.grown {T : TypeId} {w u : World} {vb : Nat} {v v' : Value} {l : List OpD} {fold : Bool} {space : Int} {rest : List Value} (h : OpRow w v' l) (k : Vk T w vb v fold space rest) (hr : rest.length ≤ 1) (hg : w.grownBy u (some vb)) : OpRow u v' l := by
  cases h with
  | nil => exact .nil
  | row b off cap l hlt h =>
    refine .row b off cap l (Nat.lt_of_lt_of_le hlt hg.size) ?_
    by_cases hb : b = vb
    · subst hb
      intro i hi
      exfalso
      have hc4 := h i hi 5 _ rfl
      rw [Lib.cell_of_heap k, List.getElem?_toArray, List.getElem?_eq_none (by simp only [List.length_cons]; omega)] at hc4
      cases hc4
    · exact fun i hi j x hx => hg.cell (h i hi j x hx) (by simpa using hb)
theorem Gd.grown {w u : World} {b : Nat} (h : Gd w) (hg : w.grownBy u (some b)) (hb : 2 ≤ b) : Gd u where
  big := by have := hg.size; have := h.big; omega
  len := by obtain ⟨m, hm⟩ := h.len; exact ⟨m, hg.cell hm (by simp; omega)⟩
  need := fun k hk j v hv => hg.cell (h.need k hk j v hv) (by simp; omega)

/-- A volume at work: its entries and its marks, and all else as it was. -/
structure WkSt (T : TypeId) (w0 : World) (vb : Nat) (fold : Bool) (space : Int) (v0 : Value) (V0 : List EntD) (u : World) (m : Nat) (v : Value) (V : List EntD) : Prop where
  gr : w0.grownBy u (some vb)
  vk : Vk T u vb v fold space [.string (marksB m)]
  row : (v = v0 ∧ V = V0) ∨ u.ownsRow w0.heap.size 75 5 v V.length (flatE V)
theorem WkSt.start {T : TypeId} {w0 : World} {vb : Nat} {fold : Bool} {space : Int} {v0 : Value} {V0 : List EntD} {m : Nat} (h : Vk T w0 vb v0 fold space [.string (marksB m)]) : WkSt T w0 vb fold space v0 V0 w0 m v0 V0 :=
  ⟨⟨rfl, rfl, rfl, Nat.le_refl _, fun _ _ _ => rfl⟩, h, .inl ⟨rfl, rfl⟩⟩
theorem WkSt.rowAt {T : TypeId} {w0 : World} {vb : Nat} {fold : Bool} {space : Int} {v0 : Value} {V0 : List EntD} {u : World} {m m0 : Nat} {v : Value} {V : List EntD} (h : WkSt T w0 vb fold space v0 V0 u m v V) (hk : Vk T w0 vb v0 fold space [.string (marksB m0)]) (hr : RowAt w0 v0 V0) : RowAt u v V := by
  rcases h.row with ⟨rfl, rfl⟩ | ho
  · exact hr.grown hk (by simp) h.gr
  · exact RowAt.ofOwn ho
theorem WkSt.below {T : TypeId} {w0 : World} {vb : Nat} {fold : Bool} {space : Int} {v0 : Value} {V0 : List EntD} {u u' : World} {m : Nat} {v : Value} {V : List EntD} (h : WkSt T w0 vb fold space v0 V0 u m v V) (hb : Below u.heap.size u u') : WkSt T w0 vb fold space v0 V0 u' m v V :=
  ⟨⟨hb.os.trans h.gr.os, hb.tape.trans h.gr.tape, hb.output.trans h.gr.output, Nat.le_trans h.gr.size hb.size, fun k hk hne => (hb.block k (Nat.lt_of_lt_of_le hk h.gr.size)).trans (h.gr.block k hk hne)⟩, h.vk.below hb h.vk.lt, h.row.imp id (own_below hb)⟩
theorem WkSt.mark {T : TypeId} {w0 : World} {vb : Nat} {fold : Bool} {space : Int} {v0 : Value} {V0 : List EntD} {u u' : World} {m m' : Nat} {v : Value} {V : List EntD} (h : WkSt T w0 vb fold space v0 V0 u m v V) (hT : 75 ≠ T) (hk : Vk T u' vb v fold space [.string (marksB m')]) (hg : u.grownBy u' (some vb)) : WkSt T w0 vb fold space v0 V0 u' m' v V :=
  ⟨h.gr.trans hg, hk, h.row.imp id (fun o => own_vk o h.vk hT hg)⟩
theorem WkSt.did {T : TypeId} {w0 : World} {vb : Nat} {fold : Bool} {space : Int} {v0 : Value} {V0 : List EntD} {u u' : World} {m : Nat} {v v' : Value} {V M : List EntD} (h : WkSt T w0 vb fold space v0 V0 u m v V) (hk : Vk T u' vb v' fold space [.string (marksB m)]) (ho : u'.ownsRow u.heap.size 75 5 v' M.length (flatE M)) (hg : u.grownBy u' (some vb)) : WkSt T w0 vb fold space v0 V0 u' m v' M :=
  ⟨h.gr.trans hg, hk, .inr (own_mono ho h.gr.size)⟩
theorem WkSt.from_below {T : TypeId} {w w0 : World} {vb : Nat} {fold : Bool} {space : Int} {v0 : Value} {V0 : List EntD} {u : World} {m : Nat} {v : Value} {V : List EntD} (hb : Below w.heap.size w w0) (h : WkSt T w0 vb fold space v0 V0 u m v V) : WkSt T w vb fold space v0 V0 u m v V :=
  ⟨grown_of hb h.gr, h.vk, h.row.imp id (fun o => own_mono o hb.size)⟩
end Go.Proofs.YtehkdjdflgknnaaGreatDoor
