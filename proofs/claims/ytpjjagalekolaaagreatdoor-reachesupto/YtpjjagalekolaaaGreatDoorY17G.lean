/- What the package-level tables hold; which lists of operations are scripts: the program's test. -/
import Derived.Test.YtpjjagalekolaaaGreatDoorY04
import Derived.Lib.SmallJoins
namespace Go.Proofs.YtpjjagalekolaaaGreatDoor
open Go.RowKit

def needOf : Nat → Need
  | 1 => ⟨⟨#[109, 107, 100, 105, 114]⟩, false, false, false, true⟩
  | 2 => ⟨⟨#[114, 109, 100, 105, 114]⟩, true, false, false, false⟩
  | 3 => ⟨⟨#[117, 110, 108, 105, 110, 107]⟩, true, false, false, false⟩
  | 4 => ⟨⟨#[119, 114, 105, 116, 101]⟩, true, false, true, true⟩
  | 5 => ⟨⟨#[99, 111, 112, 121]⟩, true, true, false, true⟩
  | 6 => ⟨⟨#[114, 101, 110, 97, 109, 101]⟩, true, true, false, false⟩
  | 7 => ⟨⟨#[99, 104, 109, 111, 100]⟩, true, false, false, true⟩
  | _ => ⟨⟨#[]⟩, false, false, false, false⟩

def okOp (o : OpD) : Bool := withinB o.kind 1 7 && opFits o (needOf o.kind.toNat)

/-- The ground: what the program's package-level variables hold. -/
structure Gd (w : World) : Prop where
  big : 4 ≤ w.heap.size
  len : ∃ m, w.cell? ⟨1, 0, none⟩ = some (.int .i64 m)
  need : ∀ k, k < 8 → ∀ j v, (needOf k).cells[j]? = some v → w.cell? ⟨0, k * 5 + j, none⟩ = some v


theorem Gd.below {w w' : World} (h : Gd w) (hb : Below w.heap.size w w') : Gd w' where
  big := by have := hb.size; have := h.big; omega
  len := by obtain ⟨m, hm⟩ := h.len; exact ⟨m, cell_kept hb (by have := h.big; omega) hm⟩
  need := fun k hk j v hv => cell_kept hb (by have := h.big; omega) (h.need k hk j v hv)

theorem Gd.alloc {w : World} (h : Gd w) (o : Obj) : Gd (w.alloc o) := h.below ((Below.refl _ _).alloc (Nat.le_refl _) o)

def OpD.val (o : OpD) : Value := .agg #[.int .i64 o.kind, .string o.path, .string o.dest, .int .i64 o.id, .int .i64 o.size, .int .i64 o.mode]
def OpD.small (o : OpD) : Prop := o.path.size ≤ 1500000 ∧ o.dest.size ≤ 1500000

set_option maxHeartbeats 1000000 in
theorem isOp_any (o : OpD) (w : World) (hg : Gd w) (hs : o.small) :
    Calls Tryz.prog 74 #[.agg #[.int .i64 o.kind, .string o.path, .string o.dest, .int .i64 o.id, .int .i64 o.size, .int .i64 o.mode]] w fun e w' => e = .returned (.bool (okOp o)) ∧ Below w.heap.size w w' := by
  by_cases hk : 1 ≤ o.kind ∧ o.kind ≤ 7
  · obtain ⟨K, hK⟩ := Int.eq_ofNat_of_zero_le (by omega : 0 ≤ o.kind)
    obtain ⟨m, hm⟩ := hg.len
    refine (isOp_in o K hK (by omega) (by omega) (needOf K) m w hs.1 hs.2 hm hg.big (hg.need K (by omega))).mono ?_
    rintro e w' ⟨rfl, hb⟩
    refine ⟨ret_bool ?_, hb⟩
    have e1 : withinB o.kind 1 7 = true := by simp [withinB]; omega
    rw [okOp, e1, hK]; simp
  · have e1 : withinB o.kind 1 7 = false := by
      cases h : withinB o.kind 1 7
      · rfl
      · exfalso; apply hk; simpa [withinB] using h
    go_enter Tryz.func74, Tryz.ntmps74
    go_wp2_with (go_at_call 118; refine (within_any _ _ _ _).mono ?_; rintro e w' ⟨rfl, rfl⟩)
    go_ret
    exact ⟨ret_bool (by simp [okOp, e1]), (Below.refl _ _).alloc (Nat.le_refl _) _⟩

/-- A row of operations in memory. -/
def OpsAt (w : World) (b off : Nat) (l : List OpD) : Prop := ∀ (k : Nat) (h : k < l.length), ∀ j v, l[k].cells[j]? = some v → w.cell? ⟨b, off + k * 6 + j, none⟩ = some v

theorem OpsAt.below {w w' : World} {b off : Nat} {l : List OpD} (h : OpsAt w b off l) {B : Nat} (hb : Below B w w') (hB : b < B) : OpsAt w' b off l :=
  fun k hk j v hv => cell_kept hb hB (h k hk j v hv)

def scriptB (l : List OpD) : Bool := decide (l.length ≤ 400) && l.all okOp

theorem all_snoc (l : List OpD) (k : Nat) (h : k < l.length) : (l.take (k + 1)).all okOp = ((l.take k).all okOp && okOp l[k]) := by
  rw [List.take_succ_eq_append_getElem h, List.all_append, List.all_cons, List.all_nil, Bool.and_true]
theorem all_badOp (l : List OpD) (k : Nat) (h : k < l.length) (hb : okOp l[k] = false) : l.all okOp = false := by
  cases hc : l.all okOp
  · rfl
  · rw [List.all_eq_true] at hc
    have := hc l[k] (List.getElem_mem h)
    rw [hb] at this; cases this

/-- The first operation that is wrong, seen from number i on. -/
def fwrong : List OpD → Nat → Int × Bool
  | [], _ => (0, false)
  | o :: t, i => if i = 400 ∨ okOp o = false then (i, true) else fwrong t (i + 1)
theorem fwrong_at (l : List OpD) (k : Nat) (h : k < l.length) : fwrong (l.drop k) k = if k = 400 ∨ okOp l[k] = false then ((k : Int), true) else fwrong (l.drop (k + 1)) (k + 1) := by
  rw [List.drop_eq_getElem_cons h, fwrong]
theorem fwrong_script (l : List OpD) : ∀ i, i ≤ 400 → (fwrong l i).2 = !(decide (i + l.length ≤ 400) && l.all okOp) := by
  induction l with
  | nil => intro i hi; simp [fwrong]; omega
  | cons o t ih =>
    intro i hi
    rw [fwrong]
    split
    · rename_i h
      rcases h with h | h
      · simp; left; omega
      · simp [h]
    · rename_i h
      simp only [not_or, Bool.not_eq_false] at h
      rw [ih (i + 1) (by omega), List.all_cons, h.2]
      simp only [List.length_cons, Bool.true_and, show i + 1 + t.length = i + (t.length + 1) by omega]
theorem fwrong_scriptB (l : List OpD) : (fwrong l 0).2 = !scriptB l := by
  rw [fwrong_script l 0 (by omega), scriptB]; simp

set_option maxHeartbeats 1000000 in
theorem firstWrong_any (b off cap : Nat) (l : List OpD) (w : World) (hg : Gd w) (hl : l.length ≤ 2000000) (hs : ∀ o ∈ l, o.small) (hb : b < w.heap.size) (hc : OpsAt w b off l) :
    Calls Tryz.prog 115 #[.slice (some ⟨b, off, none⟩) l.length cap] w fun e w' => e = .returned (.tuple #[.int .i64 (fwrong l 0).1, .bool (fwrong l 0).2]) ∧ Below w.heap.size w w' := by
  go_enter Tryz.func115, Tryz.ntmps115
  go_wp2
  go_loopw [8] (fun i wr => ∃ k : Nat, k ≤ l.length ∧ i = .int .i64 k ∧ fwrong l 0 = fwrong (l.drop k) k ∧ Below w.heap.size w wr) (fun i _ => l.length - (intOf i).toNat)
  case atStart => exact ⟨0, Nat.zero_le _, rfl, rfl, Below.refl _ _⟩
  case round =>
    obtain ⟨k, hk, rfl, hd, hbw⟩ := hrel
    have HD : Hid (fwrong l 0 = fwrong (l.drop k) k) := hd
    clear hd
    have hbs := hbw.size
    by_cases hlt : k < l.length
    · have HSN : Hid (fwrong (l.drop k) k = if k = 400 ∨ okOp l[k] = false then ((k : Int), true) else fwrong (l.drop (k + 1)) (k + 1)) := fwrong_at l k hlt
      have hcw := (hc.below hbw hb) k hlt
      have hsm := hs _ (List.getElem_mem hlt)
      generalize l[k] = o at *
      have c0 := hcw 0 _ rfl
      have c1 := hcw 1 _ rfl
      have c2 := hcw 2 _ rfl
      have c3 := hcw 3 _ rfl
      have c4 := hcw 4 _ rfl
      have c5 := hcw 5 _ rfl
      simp only [Nat.add_zero] at c0
      clear hcw
      have hgr : Gd wr := hg.below hbw
      have HG : Hid (Gd wr) := hgr
      clear hgr
      by_cases h4 : ((k : Int) == 400) = true
      · have H4 : Hid (k = 400) := by show k = 400; simp at h4; omega
        go_wp2
        go_ret2
        refine ⟨?_, hbw.alloc hbs _⟩
        rw [HD.out, HSN.out, if_pos (.inl H4.out)]; rfl
      · simp only [Bool.not_eq_true] at h4
        have H4 : Hid (¬ k = 400) := by show ¬ k = 400; intro h; subst h; simp at h4
        by_cases hn : okOp o = true
        · go_wp2_with (go_at_call 74; refine (isOp_any _ _ (HG.out.alloc _) hsm).mono ?_; rintro e w1 ⟨rfl, hb1⟩)
          exact ⟨⟨k + 1, by omega, by go_num, by rw [HD.out, HSN.out, if_neg (by simp [H4.out, hn])], (hbw.alloc hbs _).trans (hb1.mono (by simp only [World.size_alloc]; omega))⟩, by simp [intOf]; omega⟩
        · simp only [Bool.not_eq_true] at hn
          go_wp2_with (go_at_call 74; refine (isOp_any _ _ (HG.out.alloc _) hsm).mono ?_; rintro e w1 ⟨rfl, hb1⟩)
          go_ret2
          refine ⟨?_, (hbw.alloc hbs _).trans (hb1.mono (by simp only [World.size_alloc]; omega))⟩
          rw [HD.out, HSN.out, if_pos (.inr hn)]; rfl
    · go_wp2
      go_ret2
      refine ⟨?_, hbw⟩
      have h := HD.out
      rw [List.drop_of_length_le (by omega), fwrong] at h
      rw [h]; rfl

set_option maxHeartbeats 1000000 in
theorem firstWrong_nil (w : World) :
    Calls Tryz.prog 115 #[.slice none 0 0] w fun e w' => e = .returned (.tuple #[.int .i64 0, .bool false]) ∧ w' = w := by
  go_enter Tryz.func115, Tryz.ntmps115
  go_wp2
  refine wp_loop_rounds 1 ?_
  rw [rounds_succ]
  go_wp2
  go_ret2
  exact ⟨rfl, rfl⟩

end Go.Proofs.YtpjjagalekolaaaGreatDoor

