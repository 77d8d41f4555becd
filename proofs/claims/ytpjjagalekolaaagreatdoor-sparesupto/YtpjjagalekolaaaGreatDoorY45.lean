/- KW, KX, KY, KZ, NA: in one text. -/
import Derived.Test.YtpjjagalekolaaaGreatDoorY13
import Derived.Test.YtpjjagalekolaaaGreatDoorY35
import Derived.Test.YtpjjagalekolaaaGreatDoorY44HC
import Derived.Test.YtpjjagalekolaaaGreatDoorY28
import Derived.Test.YtpjjagalekolaaaGreatDoorY27
/- The law's own life: a swap is planned, mounted, worked; a content that lies nowhere is refused. -/
namespace Go.Proofs.YtpjjagalekolaaaGreatDoor
open Go.RowKit
set_option linter.unusedVariables false
set_option linter.unusedSimpArgs false

def swapD : List OpD := [⟨6, ⟨#[97]⟩, ⟨#[126, 48]⟩, 0, 0, 0⟩, ⟨6, ⟨#[98]⟩, ⟨#[97]⟩, 0, 0, 0⟩, ⟨6, ⟨#[126, 48]⟩, ⟨#[98]⟩, 0, 0, 0⟩]
theorem mnt_s : mountN false 100 sD = 0 := by kernel_rfl
theorem seq_s : seqL false 100 sD swapD 0 = (0, 3, tD) := by kernel_rfl
theorem try_s : (match tryP false 9223372036854775807 sD swapD with | .ok _ => true | .error _ => false) = true := by kernel_rfl
theorem held_s : heldF false sD = true := by kernel_rfl
theorem work_s {e k : Int} {V' : List EntD} {m' : Nat} (h : WorkS false 100 sD sD swapD 0 e k V' m') : e = 0 ∧ k = 3 ∧ V' = tD := by
  unfold WorkS at h
  have ht := try_s
  cases hx : tryP false 9223372036854775807 sD swapD with
  | error x => rw [hx] at ht; cases ht
  | ok x =>
    rw [hx] at h
    obtain ⟨d, hd, _, hn⟩ := h
    have hd0 : d = (0 : Nat) := by
      rcases hd with ⟨_, rfl⟩ | ⟨_, h0, _⟩ | ⟨hne, _⟩
      · rfl
      · exact absurd h0 (by decide)
      · exact absurd rfl hne
    obtain ⟨n, hk, hs, _⟩ := hn 0 hd0
    rw [List.drop_zero, seq_s] at hs
    simp only [Prod.mk.injEq] at hs
    obtain ⟨h1, h2, h3⟩ := hs
    exact ⟨h1.symm, by rw [hk, ← h2]; rfl, h3.symm⟩
theorem swapD_small : ∀ o ∈ swapD, o.small := by
  intro o ho
  simp only [swapD, List.mem_cons, List.not_mem_nil, or_false] at ho
  rcases ho with rfl | rfl | rfl <;> (unfold OpD.small; decide)
theorem ops_of {u : World} {b : Nat} (h : Blk u b 59 swapC) : OpsAt u b 0 swapD := by
  intro k hk j v hv
  have hk3 : k < 3 := hk
  match k, hk3 with
  | 0, _ =>
    refine h.cell (0 + 0 * 6 + j) ?_
    match j with
    | 0 => exact hv
    | 1 => exact hv
    | 2 => exact hv
    | 3 => exact hv
    | 4 => exact hv
    | 5 => exact hv
    | n + 6 => cases hv
  | 1, _ =>
    refine h.cell (0 + 1 * 6 + j) ?_
    match j with
    | 0 => exact hv
    | 1 => exact hv
    | 2 => exact hv
    | 3 => exact hv
    | 4 => exact hv
    | 5 => exact hv
    | n + 6 => cases hv
  | 2, _ =>
    refine h.cell (0 + 2 * 6 + j) ?_
    match j with
    | 0 => exact hv
    | 1 => exact hv
    | 2 => exact hv
    | 3 => exact hv
    | 4 => exact hv
    | 5 => exact hv
    | n + 6 => cases hv
theorem row_s {u : World} {b : Nat} (h : Blk u b 56 sC) : RowAt u (.slice (some ⟨b, 0, none⟩) 2 2) sD := RowAt.row b 0 2 sD h.lt (by decide) (by unfold maxLen; omega) (ents_of h)
theorem row_t {u : World} {b : Nat} (h : Blk u b 56 tC) : RowAt u (.slice (some ⟨b, 0, none⟩) 2 2) tD := RowAt.row b 0 2 tD h.lt (by decide) (by unfold maxLen; omega) (ents_of h)

set_option maxHeartbeats 8000000 in
set_option maxRecDepth 100000 in
theorem alive_any (w : World) (hg : Gd w) : Calls Tryz.prog 30 #[] w fun e w' => e = .returned (.bool true) ∧ Below w.heap.size w w' := by
  have HG := hidD hg
  have hbig := hg.big
  clear hg
  go_enter Tryz.func30, Tryz.ntmps30
  go_wp2_with fail
  refine (file_any _ _ _).mono ?_
  rintro e w1 ⟨rfl, hb1⟩
  have B1 := hidD hb1
  clear hb1
  go_wp2_with fail
  refine (file_any _ _ _).mono ?_
  rintro e w2 ⟨rfl, hb2⟩
  have B2 := hidD (B1.out.trans (hb2.mono B1.out.size))
  clear hb2 B1
  have BS := hidD (Blk.new w2 56 sC)
  have B3 := hidD (B2.out.trans ((box_below w2 sC.toArray 56).mono B2.out.size))
  go_wp2_with fail
  refine (file_any _ _ _).mono ?_
  rintro e w4 ⟨rfl, hb4⟩
  have BS4 := hidD (BS.out.below hb4)
  have B4 := hidD (B3.out.trans (hb4.mono B3.out.size))
  clear hb4 B2 B3 BS
  go_wp2_with fail
  refine (file_any _ _ _).mono ?_
  rintro e w5 ⟨rfl, hb5⟩
  have BS5 := hidD (BS4.out.below hb5)
  have B5 := hidD (B4.out.trans (hb5.mono B4.out.size))
  clear hb5 B4 BS4
  have BT := hidD (Blk.new w5 56 tC)
  have BS6 := hidD (BS5.out.below (box_below w5 tC.toArray 56))
  have B6 := hidD (B5.out.trans ((box_below w5 tC.toArray 56).mono B5.out.size))
  go_wp2_with fail
  refine (plan_swap BS6.out BT.out).mono ?_
  rintro e w7 ⟨ov, rfl, hov, hb7⟩
  obtain ⟨ga, ca, hga⟩ := row_form hov (by decide)
  subst hga
  have BS7 := hidD (BS6.out.below hb7)
  have BT7 := hidD (BT.out.below hb7)
  have BO7 := hidD (blk_of_row hov)
  have B7 := hidD (B6.out.trans (hb7.mono B6.out.size))
  clear hb7 hov B5 B6 BS5 BS6 BT
  go_wp2_with fail
  refine (cMount false (row_s BS7.out) ⟨by decide, sD_small⟩ 100 ⟨#[]⟩ (by decide)).mono ?_
  intro e w8 hm
  rw [CMnt, if_pos mnt_s] at hm
  obtain ⟨vb, v', rfl, hvb, vk, vr, hb8⟩ := hm
  have BS8 := hidD (BS7.out.below hb8)
  have BT8 := hidD (BT7.out.below hb8)
  have BO8 := hidD (BO7.out.below hb8)
  have B8 := hidD (B7.out.trans (hb8.mono B7.out.size))
  have VK := hidD vk
  have VR := hidD vr
  have hvb2 : 2 ≤ vb := by have := B7.out.size; omega
  have hbs := BS7.out.lt
  have hbt := BT7.out.lt
  have HVB := hidD hvb
  have hw7 := B7.out.size
  clear hb8 vk vr hvb B7 BS7 BT7 BO7
  go_wp2_with fail
  refine (cWork (m := 0) (S := sD) (l := swapD) VK.out hvb2 (RowAt.ofOwn VR.out) (held_vol held_s) (by decide) (by decide) (row_s BS8.out) ⟨by decide, sD_small⟩ (HG.out.below B8.out) (OpRow.row ga 0 ca swapD BO8.out.lt (ops_of BO8.out)) (by decide) swapD_small (Nat.zero_le _) 400 (by decide) (by decide)).mono ?_
  intro e w9 hA
  obtain ⟨e1, k1, m1, v1, V1, rfl, st, K1, said⟩ := hA
  obtain ⟨he, hk, hV⟩ := work_s said
  subst he
  subst hk
  subst hV
  have hne1 : some w2.heap.size ≠ some vb := by have := HVB.out; simp; omega
  have hne2 : some w5.heap.size ≠ some vb := by have := HVB.out; simp; omega
  have BS9 := hidD (BS8.out.kept st.gr hne1)
  have BT9 := hidD (BT8.out.kept st.gr hne2)
  have B9 := hidD (B8.out.grown st.gr B8.out.size (fun k e => by have := HVB.out; have := hbs; cases e; have := B8.out.size; omega))
  have VK9 := hidD st.vk
  have VR9 := hidD (st.rowAt (m0 := 0) VK.out (RowAt.ofOwn VR.out))
  clear st K1 said BS8 BT8 BO8 B8 VK VR hne1 hne2
  go_wp2_with fail
  refine (cTree VK9.out VR9.out (by decide)).mono ?_
  rintro e w10 ⟨tv, rfl, htv, hb10⟩
  have BS10 := hidD (BS9.out.below hb10)
  have BT10 := hidD (BT9.out.below hb10)
  have B10 := hidD (B9.out.trans (hb10.mono B9.out.size))
  obtain ⟨ta, tn, tc, hts⟩ := shape_of htv
  subst hts
  have TV := hidD (RowAt.ofOwn htv)
  clear hb10 htv BS9 BT9 B9 VK9 VR9
  go_wp2_with fail
  refine (rEq TV.out (row_t BT10.out) (by decide)).mono ?_
  rintro e w11 ⟨b, rfl, hbb, n, rfl⟩
  have hbt' : b = true := hbb.2 rfl
  subst hbt'
  clear hbb
  have BS11 := hidD (BS10.out.below (below_drewNB w10 n))
  have B11 := hidD (B10.out.trans ((below_drewNB w10 n).mono (Nat.le_refl _)))
  generalize w10.drewN n = w12 at *
  clear BS10 BT10 B10 TV
  go_wp2_with fail
  refine (file_any _ _ _).mono ?_
  rintro e w13 ⟨rfl, hb13⟩
  have BS13 := hidD (BS11.out.below hb13)
  have B13 := hidD (B11.out.trans (hb13.mono B11.out.size))
  clear hb13 BS11 B11
  have BX1 := hidD (box_below w13 cC.toArray 56)
  have BX2 := hidD (box_below (w13.alloc (.cells cC.toArray 56)) #[.int .i64 4] 3)
  have BC := hidD ((Blk.new w13 56 cC).below BX2.out)
  have BI := hidD (Blk.new (w13.alloc (.cells cC.toArray 56)) 3 [.int .i64 4])
  have BS14 := hidD ((BS13.out.below BX1.out).below BX2.out)
  have B14 := hidD ((B13.out.trans (BX1.out.mono B13.out.size)).trans (BX2.out.mono (Nat.le_trans B13.out.size BX1.out.size)))
  go_wp2_with fail
  have hz : (w13.alloc (.cells cC.toArray 56)).heap.size = w13.heap.size + 1 := by simp
  have HP := hidD (plan_store BS14.out BC.out BI.out)
  rw [hz] at HP
  refine HP.out.mono ?_
  rintro e w15 ⟨rfl, hb15⟩
  have B15 := hidD (B14.out.trans (hb15.mono B14.out.size))
  clear hb15 HP BS14 BC BI B14 BX1 BX2 BS13 B13 hz
  go_wp2_with fail
  go_ret
  exact ⟨rfl, B15.out⟩
end Go.Proofs.YtpjjagalekolaaaGreatDoor

/- What the laws of keeping lean on: the face's Try; a number picked; a tree may be mounted. -/
namespace Go.Proofs.YtpjjagalekolaaaGreatDoor
open Go.RowKit
set_option linter.unusedVariables false
set_option linter.unusedSimpArgs false
def rM (x : Except (Int × Int) (List EntD × Int)) : List EntD := match x with | .error _ => [] | .ok (M, _) => M
def rN (x : Except (Int × Int) (List EntD × Int)) : Int := match x with | .error _ => 0 | .ok (_, n) => n
def rC (x : Except (Int × Int) (List EntD × Int)) : Int := match x with | .error (c, _) => c | .ok _ => 0
def rK (x : Except (Int × Int) (List EntD × Int)) : Int := match x with | .error (_, k) => k | .ok _ => 0
theorem TryA.one {w : World} {x : Except (Int × Int) (List EntD × Int)} {r : Ending} {w' : World} (h : TryA w x r w') : ∃ v, r = .returned (.tuple #[v, .int .i64 (rN x), .int .i64 (rC x), .int .i64 (rK x)]) ∧ w'.ownsRow w.heap.size 56 5 v (rM x).length (flatE (rM x)) ∧ Below w.heap.size w w' := by
  cases x with
  | error ck =>
    obtain ⟨c, k⟩ := ck
    exact ⟨_, h.1, World.ownsRow_nil _ _ _ _, h.2⟩
  | ok mn =>
    obtain ⟨M, n⟩ := mn
    exact h
set_option maxHeartbeats 1000000 in
theorem faceTry {w : World} {v1 v2 : Value} {fold : Bool} {x : Except (Int × Int) (List EntD × Int)} (h : Calls Tryz.prog 42 #[v1, .bool fold, v2] w fun r w' => TryA w x r w') :
    Calls Tryz.prog 20 #[v1, .bool fold, v2] w fun r w' => ∃ v, r = .returned (.tuple #[v, .int .i64 (rN x), .int .i64 (rC x), .int .i64 (rK x)]) ∧ w'.ownsRow w.heap.size 56 5 v (rM x).length (flatE (rM x)) ∧ Below w.heap.size w w' := by
  have H := hidD (h.mono (fun r w' hr => hr.one))
  clear h
  go_enter Tryz.func20, Tryz.ntmps20
  go_wp2_with fail
  refine H.out.mono ?_
  rintro e w1 ⟨v, rfl, ho, hb⟩
  have HO := hidD ho
  clear ho
  go_wp2
  refine bodyPost_ret (results_tmp4 rfl _ _ _) rfl ?_
  exact ⟨_, rfl, HO.out, hb⟩

theorem tree_held {fold : Bool} {l : List EntD} (h : treeF fold l = true) : heldF fold l = true := by
  have K := tree_vol h
  unfold heldF chkPH
  have hf := K.few
  rw [beq_iff_eq, if_neg (by omega), chkGoH_zero]
  intro k hk
  rw [chkAtH_zero]
  cases fold with
  | false =>
    have h' : (chkP l).1 = 0 := by simpa [treeF, treeB] using h
    unfold chkP at h'
    split at h'
    · cases h'
    · have := (chkGo_zero l l 0).1 h' k hk
      simp only [Nat.zero_add] at this ⊢
      unfold chkAt at this
      split at this
      · cases this
      · rename_i hp
        exact ⟨by unfold holdB; simp only [Bool.not_eq_false] at hp; rw [show l[k].pl = l[k].path.data.toList from rfl, hp]; rfl, this⟩
  | true =>
    have h' : (chkPT l).1 = 0 := by simpa [treeF, treeBT] using h
    unfold chkPT at h'
    split at h'
    · cases h'
    · have := (chkGoT_zero l l 0).1 h' k hk
      simp only [Nat.zero_add] at this ⊢
      unfold chkAtT at this
      split at this
      · cases this
      · rename_i hp
        exact ⟨by unfold holdB; simp only [Bool.not_eq_false] at hp; rw [show l[k].pl = l[k].path.data.toList from rfl, hp]; rfl, this⟩
theorem tree_mount {fold : Bool} {l : List EntD} (h : treeF fold l = true) : mountN fold 100000 l = 0 := by
  have hu := used_le (tree_vol h)
  unfold mountN
  rw [tree_held h, if_neg (by decide), if_neg (by omega)]
theorem try_tree {fold : Bool} {space : Int} {L : List EntD} {l : List OpD} {x : List EntD × Int} (h : tryP fold space L l = .ok x) : treeF fold L = true := by
  unfold tryP at h
  split at h
  · cases h
  · rename_i hh
    simpa using hh
end Go.Proofs.YtpjjagalekolaaaGreatDoor

/- The way of a script that goes: plain. -/
namespace Go.Proofs.YtpjjagalekolaaaGreatDoor
open Go.RowKit
set_option linter.unusedVariables false
set_option linter.unusedSimpArgs false

theorem try_way {fold : Bool} {S M : List EntD} {l : List OpD} {n : Int} : ∀ (r k : Nat) (need : Int) (i : Nat), k + r = l.length → tryL fold 9223372036854775807 (wayT fold S l k) need (l.drop k) i = .ok (M, n) → wayT fold S l l.length = M ∧ ∀ (j : Nat) (h : j < l.length), k ≤ j → doL fold 9223372036854775807 (wayT fold S l j) l[j] = .ok (wayT fold S l (j + 1)) := by
  intro r
  induction r with
  | zero =>
    intro k need i hk h
    have hk' : k = l.length := by omega
    subst hk'
    rw [List.drop_length, tryL] at h
    cases h
    exact ⟨rfl, fun j hj hkj => by omega⟩
  | succ r ih =>
    intro k need i hk h
    have hkl : k < l.length := by omega
    rw [List.drop_eq_getElem_cons hkl, tryL] at h
    cases hd : doL fold 9223372036854775807 (wayT fold S l k) l[k] with
    | error c => rw [hd] at h; cases h
    | ok L' =>
      rw [hd] at h
      have hw := wayT_step hkl hd
      rw [← hw] at h
      obtain ⟨h1, h2⟩ := ih (k + 1) _ _ (by omega) h
      refine ⟨h1, fun j hj hkj => ?_⟩
      by_cases e : j = k
      · subst e; rw [hd, hw]
      · exact h2 j hj (by omega)
theorem tryP_way {fold : Bool} {S M : List EntD} {l : List OpD} {n : Int} (h : tryP fold 9223372036854775807 S l = .ok (M, n)) : wayT fold S l l.length = M ∧ ∀ (j : Nat) (h : j < l.length), doL fold 9223372036854775807 (wayT fold S l j) l[j] = .ok (wayT fold S l (j + 1)) := by
  unfold tryP at h
  split at h
  · cases h
  · split at h
    · cases h
    · split at h
      · cases h
      · rename_i x hx
        cases h
        have := try_way (l := l) (S := S) l.length 0 _ _ (by omega) (by rw [List.drop_zero]; exact hx)
        exact ⟨this.1, fun j hj => this.2 j hj (Nat.zero_le _)⟩
theorem tryP_err0 {fold : Bool} {space : Int} {S : List EntD} {l : List OpD} {c k : Int} (h : tryP fold space S l = .error (c, k)) : c ≠ 0 := by
  unfold tryP at h
  split at h
  · cases h; decide
  · split at h
    · cases h; decide
    · split at h
      · rename_i c' k' he
        cases h
        exact try_err0 _ _ _ _ _ _ he
      · cases h
theorem no11 {fold : Bool} {S M V : List EntD} {l : List OpD} {n : Int} {m d : Nat} (h : tryP fold 9223372036854775807 S l = .ok (M, n)) (hv : WkV fold (wayT fold S l) l V m d) (hd : d < l.length) : doL fold 100000 V l[d] ≠ .error 11 := by
  obtain ⟨_, hV, _⟩ := hv.here
  have hs := (tryP_way h).2 d hd
  rw [← hV] at hs
  have hg := (try_ok h).2 l[d] (List.getElem_mem hd)
  rw [do_space (s2 := 9223372036854775807) hv.vol (okOp_good hg) (by decide) (by decide), hs]
  intro e
  cases e
/-- Work with budget enough brings the whole script about. -/
theorem work_all {fold : Bool} {S M V' : List EntD} {l : List OpD} {n : Int} {m d m' d' : Nat} {e k : Int} (h : tryP fold 9223372036854775807 S l = .ok (M, n)) (hv : WkV fold (wayT fold S l) l V' m' d') (hw : WorkE fold 100000 l V' m d m' d' (100 * ((l.length : Int) + 1)) e k) (hm : d ≤ m) : e = 0 ∧ k = l.length ∧ V' = M := by
  rcases hw with ⟨he, hk, hd⟩ | ⟨_, _, _, hmu⟩ | ⟨_, _, _, hlt, h11⟩
  · refine ⟨he, hk, ?_⟩
    rw [hv.here.2.1, hd]
    exact (tryP_way h).1
  · have h1 := hv.here.2.2
    have h2 : muW l m d ≤ 2 * (l.length : Int) + 2 := by
      unfold muW
      split <;> omega
    omega
  · exact absurd h11 (no11 h hv hlt)
/-- A volume just mounted stands at the beginning. -/
theorem WkV.begin {fold : Bool} {S : List EntD} {l : List OpD} (K : VolOk fold S) : WkV fold (wayT fold S l) l S 0 0 := ⟨K, Nat.zero_le _, .inl ⟨rfl, rfl⟩⟩
end Go.Proofs.YtpjjagalekolaaaGreatDoor

/- Two volumes side by side, each on the way of its script. -/
namespace Go.Proofs.YtpjjagalekolaaaGreatDoor
open Go.RowKit
set_option linter.unusedVariables false
set_option linter.unusedSimpArgs false

/-- A row of numbers. -/
inductive NumRow (w : World) : Value → List Int → Prop
  | nil : NumRow w (.slice none 0 0) []
  | row (b off cap : Nat) (ts : List Int) (hb : b < w.heap.size) (h : ∀ (k : Nat) (hk : k < ts.length), w.cell? ⟨b, off + k, none⟩ = some (.int .i64 ts[k])) : NumRow w (.slice (some ⟨b, off, none⟩) ts.length cap) ts
theorem NumRow.val {w : World} {v : Value} {ts : List Int} (h : NumRow w v ts) : ∃ a c, v = .slice a ts.length c := by
  cases h with
  | nil => exact ⟨_, _, rfl⟩
  | row b off cap ts hb h => exact ⟨_, _, rfl⟩
theorem NumRow.below {w w' : World} {v : Value} {ts : List Int} (h : NumRow w v ts) {B : Nat} (hb : Below B w w') (hB : w.heap.size ≤ B) : NumRow w' v ts := by
  cases h with
  | nil => exact .nil
  | row b off cap ts hlt h => exact .row b off cap ts (by have := hb.size; omega) (fun k hk => cell_kept hb (by omega) (h k hk))

/-- A volume of this space on the way of its script. -/
structure Ap (w3 u : World) (fold : Bool) (A : List EntD) (x : List OpD) (va : Nat) (v : Value) (V : List EntD) (m d : Nat) : Prop where
  ge : w3.heap.size ≤ va
  vk : Vk 89 u va v fold 100000 [.string (marksB m)]
  row : RowAt u v V
  wk : WkV fold (wayT fold A x) x V m d
theorem Ap.below {w3 u u' : World} {fold : Bool} {A : List EntD} {x : List OpD} {va : Nat} {v : Value} {V : List EntD} {m d : Nat} (h : Ap w3 u fold A x va v V m d) (hb : Below u.heap.size u u') : Ap w3 u' fold A x va v V m d :=
  ⟨h.ge, h.vk.below hb h.vk.lt, h.row.below hb (Nat.le_refl _), h.wk⟩
theorem Ap.other {w3 u u' : World} {fold fold2 : Bool} {A : List EntD} {x : List OpD} {va vb : Nat} {v v2 : Value} {V : List EntD} {m d m2 : Nat} {space : Int} (h : Ap w3 u fold A x va v V m d) (k : Vk 89 u vb v2 fold2 space [.string (marksB m2)]) (hne : va ≠ vb) (hg : u.grownBy u' (some vb)) : Ap w3 u' fold A x va v V m d :=
  ⟨h.ge, (hg.block va h.vk.lt (by simpa using hne)).trans h.vk, h.row.grown k (by simp) hg, h.wk⟩
theorem Ap.le {w3 u : World} {fold : Bool} {A : List EntD} {x : List OpD} {va : Nat} {v : Value} {V : List EntD} {m d : Nat} (h : Ap w3 u fold A x va v V m d) : d ≤ m := by
  rcases h.wk.at_ with ⟨h1, _⟩ | ⟨h1, _⟩ <;> omega
/-- A Work on such a volume. -/
theorem Ap.work {w3 u : World} {fold : Bool} {A M : List EntD} {x : List OpD} {n : Int} {va : Nat} {v av xv : Value} {V : List EntD} {m d : Nat} (h : Ap w3 u fold A x va v V m d) (hb : Below w3.heap.size w3 u) (hbig : 4 ≤ w3.heap.size) (hg : Gd w3) (ha : RowAt w3 av A) (sA : SmallL A) (ho : OpRow w3 xv x) (hl : x.length ≤ 2000000) (hos : ∀ o ∈ x, o.small) (hX : tryP fold 9223372036854775807 A x = .ok (M, n)) (b : Int) (hbl : -1000000000 ≤ b) (hb2 : b ≤ 9223372036854775807) :
    Calls Tryz.prog 48 #[.pointer (some ⟨va, 0, none⟩), av, xv, .int .i64 b] u fun r w' => ∃ (e k : Int) (v' : Value) (V' : List EntD) (m' d' : Nat), r = .returned (.tuple #[.int .i64 e, .int .i64 k]) ∧ Ap w3 w' fold A x va v' V' m' d' ∧ u.grownBy w' (some va) ∧ Below w3.heap.size w3 w' ∧ WorkE fold 100000 x V' m d m' d' b e k := by
  have := h.ge
  refine (cWorkG h.vk (by omega) h.row h.wk (by decide) (by decide) (ha.below hb (Nat.le_refl _)) sA (hg.below hb) (ho.below hb (Nat.le_refl _)) hl hos hX b hbl hb2).mono ?_
  rintro r w' ⟨e, k, m', d', v', V', rfl, st, wk, hd, hE⟩
  exact ⟨e, k, v', V', m', d', rfl, ⟨h.ge, st.vk, st.rowAt h.vk h.row, wk⟩, st.gr, hb.grown st.gr hb.size (fun q e => by cases e; exact h.ge), hE⟩
/-- Mount tells a pointer and an error, whatever they are. -/
theorem mount_any {w : World} {v : Value} {L : List EntD} (fold : Bool) (hr : RowAt w v L) (hs : SmallL L) : Calls Tryz.prog 22 #[v, .bool fold, .int .i64 100000, .string ⟨#[]⟩] w fun r w' => ∃ p n, r = .returned (.tuple #[.pointer p, .int .i64 n]) ∧ Below w.heap.size w w' := by
  refine (cMount fold hr hs 100000 ⟨#[]⟩ (by decide)).mono ?_
  intro r w' h
  unfold CMnt at h
  split at h
  · obtain ⟨vb, v', rfl, _, _, _, hb⟩ := h
    exact ⟨_, _, rfl, hb⟩
  · exact ⟨_, _, h.1, h.2⟩
theorem mount_tree {w w3 : World} {v : Value} {L : List EntD} {x : List OpD} {fold : Bool} (ht : treeF fold L = true) (hr : RowAt w v L) (hs : SmallL L) (h3 : w3.heap.size ≤ w.heap.size) : Calls Tryz.prog 22 #[v, .bool fold, .int .i64 100000, .string ⟨#[]⟩] w fun r w' => ∃ va v', r = .returned (.tuple #[.pointer (some ⟨va, 0, none⟩), .int .i64 0]) ∧ w.heap.size ≤ va ∧ Ap w3 w' fold L x va v' L 0 0 ∧ Below w.heap.size w w' := by
  refine (cMount fold hr hs 100000 ⟨#[]⟩ (by decide)).mono ?_
  intro r w' h
  rw [CMnt, if_pos (tree_mount ht)] at h
  obtain ⟨vb, v', rfl, hge, vk, vr, hb⟩ := h
  exact ⟨vb, v', rfl, hge, ⟨Nat.le_trans h3 hge, vk, RowAt.ofOwn vr, WkV.begin (tree_vol ht)⟩, hb⟩
end Go.Proofs.YtpjjagalekolaaaGreatDoor

/- The space that a script takes on its way, held against the need that Try tells: plain. -/
namespace Go.Proofs.YtpjjagalekolaaaGreatDoor
open Go.RowKit
set_option linter.unusedVariables false
set_option linter.unusedSimpArgs false

theorem used_perm {L M : List EntD} (h : L.Perm M) : usedL L = usedL M := by
  induction h with
  | nil => rfl
  | cons x _ ih => simp only [usedL, ih]
  | swap x y l => simp only [usedL]; omega
  | trans _ _ i1 i2 => exact i1.trans i2
theorem used_mov (e p : BL) (L : List EntD) : usedL (L.map (movP e p)) = usedL L := by
  induction L with
  | nil => rfl
  | cons x L ih =>
    have : (movP e p x).size = x.size := by
      unfold movP
      split <;> rfl
    simp only [List.map_cons, usedL, ih, this]
theorem used_mode {L : List EntD} {e : EntD} (md : Int) : ∀ i, L[i]? = some e → usedL (L.set i { e with mode := md }) = usedL L := by
  induction L with
  | nil => intro i h; simp at h
  | cons x L ih =>
    intro i h
    cases i with
    | zero =>
      simp only [List.getElem?_cons_zero, Option.some.injEq] at h
      subst h
      simp only [List.set_cons_zero, usedL]
    | succ i =>
      simp only [List.getElem?_cons_succ] at h
      simp only [List.set_cons_succ, usedL, ih i h]
theorem used_erase {L : List EntD} {e : EntD} : ∀ i, L[i]? = some e → usedL (L.eraseIdx i) + e.size = usedL L := by
  induction L with
  | nil => intro i h; simp at h
  | cons x L ih =>
    intro i h
    cases i with
    | zero =>
      simp only [List.getElem?_cons_zero, Option.some.injEq] at h
      subst h
      simp only [List.eraseIdx_cons_zero, usedL]; omega
    | succ i =>
      simp only [List.getElem?_cons_succ] at h
      have := ih i h
      simp only [List.eraseIdx_cons_succ, usedL]; omega
theorem mk_used {fold : Bool} {space : Int} {L M : List EntD} {e : EntD} (h : mkL fold space L e = .ok M) : usedL M = e.size + usedL L ∧ (e.dir = false → usedL M ≤ space) := by
  unfold mkL at h
  split at h
  · cases h
  · split at h
    · cases h
    · rename_i p _
      split at h
      · cases h
      · split at h
        · cases h
        · split at h
          · cases h
          · rename_i hs
            cases h
            have hu : usedL (insL (e.withP p) L) = e.size + usedL L := by
              rw [used_perm (insL_perm _ _)]
              rfl
            refine ⟨hu, fun hd => ?_⟩
            rw [hd] at hs
            simp at hs
            omega
theorem mk_full {fold : Bool} {s1 space : Int} {L M : List EntD} {e : EntD} (h : mkL fold s1 L e = .ok M) (h11 : mkL fold space L e = .error 11) : space < usedL M := by
  have hu := (mk_used h).1
  unfold mkL at h11
  split at h11
  · cases h11
  · split at h11
    · cases h11
    · rename_i p _
      split at h11
      · cases h11
      · split at h11
        · cases h11
        · split at h11
          · rename_i hs
            simp at hs
            omega
          · cases h11
/-- An operation that goes leaves no more than the space. -/
theorem do_used {fold : Bool} {space : Int} {L M : List EntD} {o : OpD} (V : VolOk fold L) (h : doL fold space L o = .ok M) (hu : usedL L ≤ space) : usedL M ≤ space := by
  unfold doL at h
  split at h
  · have := (mk_used h).1
    simp only at this
    omega
  · split at h
    · exact (mk_used h).2 rfl
    · cases hf : L[atI fold L o.pl]? with
      | none => rw [hf] at h; cases h
      | some e =>
        rw [hf] at h
        simp only at h
        split at h
        · cases h
          rw [used_mode _ _ hf]; exact hu
        · split at h
          · unfold renL at h
            split at h
            · cases h
            · split at h
              · cases h
              · split at h
                · cases h
                · split at h
                  · cases h
                  · cases h
                    rw [used_perm (res_perm _ _ _), used_mov]; exact hu
          · split at h
            · cases h
            · split at h
              · exact (mk_used h).2 rfl
              · split at h
                · cases h
                · cases h
                  have := used_erase _ hf
                  obtain ⟨hi, he⟩ := List.getElem?_eq_some_iff.1 hf
                  obtain ⟨_, _, f⟩ := fieldsB_true _ (V.fields e (he ▸ List.getElem_mem hi))
                  omega
/-- One that lacks space would take more than there is. -/
theorem do_full {fold : Bool} {s1 space : Int} {L M : List EntD} {o : OpD} (h : doL fold s1 L o = .ok M) (h11 : doL fold space L o = .error 11) : space < usedL M := by
  unfold doL at h h11
  split at h11
  · rename_i hk; rw [if_pos hk] at h; exact mk_full h h11
  · rename_i hk; rw [if_neg hk] at h
    split at h11
    · rename_i hk2; rw [if_pos hk2] at h; exact mk_full h h11
    · rename_i hk2; rw [if_neg hk2] at h
      cases hf : L[atI fold L o.pl]? with
      | none => rw [hf] at h; cases h
      | some e =>
        rw [hf] at h h11
        dsimp only at h h11
        split at h11
        · cases h11
        · rename_i h7; rw [if_neg h7] at h
          split at h11
          · rename_i h6; rw [if_pos h6] at h
            rw [h] at h11
            cases h11
          · rename_i h6; rw [if_neg h6] at h
            split at h11
            · cases h11
            · rename_i h10; rw [if_neg h10] at h
              split at h11
              · rename_i h5; rw [if_pos h5] at h; exact mk_full h h11
              · rename_i h5; rw [if_neg h5] at h
                rw [h] at h11
                cases h11

/-- The trees of the way from a to b take no more than the space. -/
def WayS (fold : Bool) (S : List EntD) (l : List OpD) (space : Int) (a b : Nat) : Prop := ∀ j, a ≤ j → j ≤ b → usedL (wayT fold S l j) ≤ space
theorem WayS.join {fold : Bool} {S : List EntD} {l : List OpD} {space : Int} {a b c : Nat} (h1 : WayS fold S l space a b) (h2 : WayS fold S l space b c) : WayS fold S l space a c := fun j ha hc => by
  by_cases h : j ≤ b
  · exact h1 j ha h
  · exact h2 j (by omega) hc
theorem try_need {fold : Bool} {s : Int} {S M : List EntD} {l : List OpD} {n : Int} : ∀ (r k : Nat) (need : Int) (i : Nat), k + r = l.length → usedL (wayT fold S l k) ≤ need → tryL fold 9223372036854775807 (wayT fold S l k) need (l.drop k) i = .ok (M, n) → need ≤ n ∧ WayS fold S l n k l.length ∧ ∀ b, need ≤ b → WayS fold S l b k l.length → n ≤ b := by
  intro r
  induction r with
  | zero =>
    intro k need i hk hu h
    obtain rfl : k = l.length := by omega
    rw [List.drop_length, tryL] at h
    cases h
    refine ⟨Int.le_refl _, fun j h1 h2 => ?_, fun b hb _ => hb⟩
    obtain rfl : j = l.length := by omega
    exact hu
  | succ r ih =>
    intro k need i hk hu h
    have hkl : k < l.length := by omega
    rw [List.drop_eq_getElem_cons hkl, tryL] at h
    cases hd : doL fold 9223372036854775807 (wayT fold S l k) l[k] with
    | error c => rw [hd] at h; cases h
    | ok L' =>
      rw [hd] at h
      have hw := wayT_step hkl hd
      rw [← hw] at h
      obtain ⟨h1, h2, h3⟩ := ih (k + 1) _ _ (by omega) (Int.le_max_right _ _) h
      refine ⟨by omega, fun j ha hb => ?_, fun b hb hw => ?_⟩
      · by_cases e : j = k
        · subst e; omega
        · exact h2 j (by omega) hb
      · have := hw (k + 1) (by omega) (by omega)
        exact h3 b (by omega) (fun j ha hb => hw j (by omega) hb)
theorem tryP_need {fold : Bool} {S M : List EntD} {l : List OpD} {n : Int} (h : tryP fold 9223372036854775807 S l = .ok (M, n)) : usedL S ≤ n ∧ usedL M ≤ n ∧ WayS fold S l n 0 l.length ∧ ∀ b, WayS fold S l b 0 l.length → n ≤ b := by
  have hM := (tryP_way h).1
  unfold tryP at h
  split at h
  · cases h
  · split at h
    · cases h
    · split at h
      · cases h
      · rename_i x hx
        cases h
        obtain ⟨h1, h2, h3⟩ := try_need (s := 0) (l := l) (S := S) l.length 0 _ _ (by omega) (Int.le_refl (usedL S)) (by rw [List.drop_zero]; exact hx)
        refine ⟨h1, ?_, h2, fun b hb => h3 b (hb 0 (Nat.le_refl _) (Nat.zero_le _)) hb⟩
        rw [← hM]; exact h2 _ (Nat.zero_le _) (Nat.le_refl _)
theorem way_vol {fold : Bool} {S M : List EntD} {l : List OpD} {n : Int} (h : tryP fold 9223372036854775807 S l = .ok (M, n)) : ∀ j, j ≤ l.length → VolOk fold (wayT fold S l j) := by
  have hw := (tryP_way h).2
  have hok := (try_ok h).2
  intro j
  induction j with
  | zero => intro _; exact tree_vol (try_tree h)
  | succ j ih =>
    intro hj
    exact do_ok (ih (by omega)) (okOp_good (hok _ (List.getElem_mem (by omega)))) (hw j (by omega))
theorem tryP_few {fold : Bool} {S M : List EntD} {l : List OpD} {n : Int} (h : tryP fold 9223372036854775807 S l = .ok (M, n)) : n ≤ 12000 := (tryP_need h).2.2.2 _ (fun j _ hj => (used_le (way_vol h j hj)).2)
theorem tryP_none {fold : Bool} {S : List EntD} (h : treeF fold S = true) : tryP fold 9223372036854775807 S [] = .ok (S, usedL S) := by
  unfold tryP
  rw [if_neg (by rw [h]; decide), if_neg (by simp [fwrong]), tryL]
end Go.Proofs.YtpjjagalekolaaaGreatDoor

