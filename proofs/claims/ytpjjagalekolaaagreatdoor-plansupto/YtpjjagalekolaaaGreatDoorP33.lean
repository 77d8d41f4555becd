/- ID, IE, IF, IG: in one text. -/
import Derived.Test.YtpjjagalekolaaaGreatDoorP30IC
import Derived.Test.YtpjjagalekolaaaGreatDoorP32
import Derived.Test.YtpjjagalekolaaaGreatDoorP11
import Derived.Test.YtpjjagalekolaaaGreatDoorP20
/- The run of a plan in memory; those that wait are let go. -/
namespace Go.Proofs.YtpjjagalekolaaaGreatDoor
open Go.RowKit
set_option linter.unusedVariables false
set_option linter.unusedSimpArgs false

/-- Rows of cells, one behind the other. -/
def flatR (r : Nat → List Value) : Nat → List Value
  | 0 => []
  | n + 1 => flatR r n ++ r n
theorem flatR_len {r : Nat → List Value} {L : Nat} (h : ∀ k, (r k).length = L) : ∀ n, (flatR r n).length = n * L
  | 0 => by simp [flatR]
  | n + 1 => by rw [flatR, List.length_append, flatR_len h n, h n, Nat.succ_mul]
theorem flatR_get {r : Nat → List Value} {L : Nat} (h : ∀ k, (r k).length = L) {k j : Nat} (hj : j < L) : ∀ n, k < n → (flatR r n)[k * L + j]? = (r k)[j]?
  | 0, hk => by omega
  | n + 1, hk => by
    rw [flatR]
    have hl := flatR_len h n
    by_cases e : k = n
    · subst e
      rw [List.getElem?_append_right (by rw [hl]; omega), hl]
      congr 1
      omega
    · have : k * L + j < n * L := by
        have h1 : (k + 1) * L ≤ n * L := Nat.mul_le_mul_right L (by omega)
        rw [Nat.succ_mul] at h1
        omega
      rw [List.getElem?_append_left (by rw [hl]; exact this), flatR_get h hj n (by omega)]
theorem flatR_same {r r' : Nat → List Value} : ∀ n, (∀ k, k < n → r k = r' k) → flatR r n = flatR r' n
  | 0, _ => rfl
  | n + 1, h => by rw [flatR, flatR, flatR_same n (fun k hk => h k (by omega)), h n (by omega)]
theorem flatR_set {r : Nat → List Value} {L : Nat} (h : ∀ k, (r k).length = L) {k j : Nat} (hj : j < L) (v : Value) : ∀ n, k < n → (flatR r n).set (k * L + j) v = flatR (upN r k ((r k).set j v)) n
  | 0, hk => by omega
  | n + 1, hk => by
    rw [flatR, flatR]
    have hl := flatR_len h n
    by_cases e : k = n
    · subst e
      rw [upN_at, List.set_append_right _ _ (by rw [hl]; omega), hl, flatR_same (r' := upN r k ((r k).set j v)) k (fun x hx => by rw [upN_ne _ _ (by omega)])]
      congr 2
      omega
    · have : k * L + j < n * L := by
        have h1 : (k + 1) * L ≤ n * L := Nat.mul_le_mul_right L (by omega)
        rw [Nat.succ_mul] at h1
        omega
      rw [List.set_append_left _ _ (by rw [hl]; exact this), flatR_set h hj v n (by omega), upN_ne _ _ (by omega)]

def flatOp (l : List OpD) : List Value := (l.map OpD.cells).flatten
def stRow (o : OpD) (w : Nat) (f m : Value) : List Value := [.int .i64 o.kind, .string o.path, .string o.dest, .int .i64 o.id, .int .i64 o.size, .int .i64 o.mode, .int .i64 (w : Int), f, m]
def stC (op : Nat → OpD) (ws : Nat → Nat) (f m : Nat → Value) (n : Nat) : List Value := flatR (fun k => stRow (op k) (ws k) (f k) (m k)) n
theorem stRow_len (o : OpD) (w : Nat) (f m : Value) : (stRow o w f m).length = 9 := rfl
section
variable {op : Nat → OpD} {ws : Nat → Nat} {f m : Nat → Value} {n : Nat}
theorem stC_get {k j : Nat} (hk : k < n) (hj : j < 9) : (stC op ws f m n)[k * 9 + j]? = (stRow (op k) (ws k) (f k) (m k))[j]? := flatR_get (fun k => stRow_len _ _ _ _) hj n hk
theorem stC_setW {k : Nat} (hk : k < n) (v : Nat) : (stC op ws f m n).set (k * 9 + 6) (.int .i64 (v : Int)) = stC op (upN ws k v) f m n := by
  unfold stC
  rw [flatR_set (fun k => stRow_len _ _ _ _) (by decide) _ n hk]
  refine flatR_same n (fun x _ => ?_)
  by_cases e : x = k
  · subst e; rw [upN_at, upN_at]; rfl
  · rw [upN_ne _ _ e, upN_ne _ _ e]
theorem stC_setF {k : Nat} (hk : k < n) (v : Value) : (stC op ws f m n).set (k * 9 + 7) v = stC op ws (upN f k v) m n := by
  unfold stC
  rw [flatR_set (fun k => stRow_len _ _ _ _) (by decide) _ n hk]
  refine flatR_same n (fun x _ => ?_)
  by_cases e : x = k
  · subst e; rw [upN_at, upN_at]; rfl
  · rw [upN_ne _ _ e, upN_ne _ _ e]
theorem stC_setP {k : Nat} (hk : k < n) (v : ByteArray) : (stC op ws f m n).set (k * 9 + 1) (.string v) = stC (upN op k { op k with path := v }) ws f m n := by
  unfold stC
  rw [flatR_set (fun k => stRow_len _ _ _ _) (by decide) _ n hk]
  refine flatR_same n (fun x _ => ?_)
  by_cases e : x = k
  · subst e; rw [upN_at, upN_at]; rfl
  · rw [upN_ne _ _ e, upN_ne _ _ e]
end

/-- A row of numbers that stays as it was. -/
def NumR (w : World) (g : Nat) (v : Value) (L : List Nat) : Prop := ∃ a c, v = .slice a L.length c ∧ ∀ (i : Nat) (h : i < L.length), ∃ b, a = some ⟨b, 0, none⟩ ∧ b < w.heap.size ∧ b ≠ g ∧ w.cell? ⟨b, i, none⟩ = some (.int .i64 (L[i] : Int))

/-- A run of steps in memory: w1: the world ahead of it; g: the block of its steps. -/
structure RM (w1 u : World) (R g c n : Nat) (op : Nat → OpD) (ws : Nat → Nat) (f m : Nat → Value) (rdy : Value) (rx : List Nat) (opv : Value) (ops : List OpD) (N : Nat) : Prop where
  gr : Kpt w1 u (fun b => b = g)
  ge : w1.heap.size ≤ R
  gl : g < w1.heap.size
  r : Blk u R 153 [.slice (some ⟨g, 0, none⟩) n c, rdy, opv, .int .i64 (N : Int)]
  st : Blk u g 155 (stC op ws f m n)
  rd : u.ownsRow w1.heap.size 3 1 rdy rx.length (numV rx)
  po : u.ownsRow w1.heap.size 59 6 opv ops.length (flatOp ops)
section
variable {w1 u u' : World} {R g c n : Nat} {op : Nat → OpD} {ws : Nat → Nat} {f m : Nat → Value} {rdy : Value} {rx : List Nat} {opv : Value} {ops : List OpD} {N : Nat}
theorem RM.below (h : RM w1 u R g c n op ws f m rdy rx opv ops N) (hb : Below u.heap.size u u') : RM w1 u' R g c n op ws f m rdy rx opv ops N :=
  ⟨(h.gr.trans (Kpt.bel hb (S := fun _ => False))).mono (fun b _ h => h.elim id False.elim), h.ge, h.gl, h.r.below hb, h.st.below hb, own_belowK hb h.rd, own_belowK hb h.po⟩
theorem RM.num (h : RM w1 u R g c n op ws f m rdy rx opv ops N) {v : Value} {L : List Nat} (hl : NumR w1 g v L) {i : Nat} (hi : i < L.length) : ∃ b c, v = .slice (some ⟨b, 0, none⟩) L.length c ∧ u.cell? ⟨b, i, none⟩ = some (.int .i64 (L[i] : Int)) := by
  obtain ⟨a, c, rfl, h1⟩ := hl
  obtain ⟨b, rfl, h2, h3, h4⟩ := h1 i hi
  exact ⟨b, c, rfl, by rw [World.cell?_of_block (a := ⟨b, i, none⟩) (h.gr.block b h2 h3)]; exact h4⟩
theorem RM.q (h : RM w1 u R g c n op ws f m rdy rx opv ops N) : Qu w1.heap.size u R (.slice (some ⟨g, 0, none⟩) n c) rdy opv (.int .i64 (N : Int)) rx := ⟨h.r, h.rd⟩
theorem RM.gR (h : RM w1 u R g c n op ws f m rdy rx opv ops N) : g ≠ R := by
  have := h.gl
  have := h.ge
  omega
/-- A cell of the steps is written. -/
theorem RM.store (h : RM w1 u R g c n op ws f m rdy rx opv ops N) (j : Nat) (v : Value) (hj : j < n * 9) {op' : Nat → OpD} {ws' : Nat → Nat} {f' : Nat → Value} (he : (stC op ws f m n).set j v = stC op' ws' f' m n) : RM w1 (u.setCell ⟨g, j, none⟩ v) R g c n op' ws' f' m rdy rx opv ops N := by
  have hg := gb_set u g j v
  refine ⟨(h.gr.trans (Kpt.of hg (S := fun b => b = g) (fun b e => by simpa using e))).mono (fun b _ h => h.elim id id), h.ge, h.gl, h.r.kept hg (fun e => h.gR (by simpa using e.symm)), ?_, row_blk h.st h.rd (by decide) hg, row_blk h.st h.po (by decide) hg⟩
  rw [← he]
  exact h.st.set j v (by rw [stC, flatR_len (fun k => stRow_len _ _ _ _)]; exact hj)
/-- The queue is another. -/
theorem RM.queue (h : RM w1 u R g c n op ws f m rdy rx opv ops N) {rdy' : Value} {rx' : List Nat} (hq : Qu w1.heap.size u' R (.slice (some ⟨g, 0, none⟩) n c) rdy' opv (.int .i64 (N : Int)) rx') (hk : Kpt u u' (fun b => b = R ∨ some b = rdy.ownBlock)) : RM w1 u' R g c n op ws f m rdy' rx' opv ops N := by
  have hrb : ∀ b, some b = rdy.ownBlock → w1.heap.size ≤ b := fun b e => (h.rd.lt b e.symm).1
  refine ⟨(h.gr.trans hk).mono (fun b hb e => ?_), h.ge, h.gl, hq.r, hk.blk h.st (fun e => ?_), hq.o, hk.row h.po (fun b e1 e2 => ?_)⟩
  · have := h.ge
    rcases e with e | e | e
    · exact e
    · omega
    · have := hrb b e
      omega
  · have := h.gl
    rcases e with e | e
    · exact h.gR e
    · have := hrb g e
      omega
  · rcases e2 with e2 | e2
    · subst e2
      exact blk_row h.r h.po (by decide) e1.symm
    · have hb : Blk u b 59 [] := by
        rcases h.po.2 with ⟨h1, _⟩ | ⟨g', cap, cur, h1, _, h3, _⟩
        · rw [h1] at e1; simp [Value.ownBlock] at e1
        · rw [h1] at e1
          have : g' = b := by simpa [Value.ownBlock] using e1
          subst this
          exact ⟨cur, h3, fun j v hv => by simp at hv⟩
      exact blk_row hb h.rd (by decide) e2
end
theorem count_at (L : List Nat) (i : Nat) (h : i < L.length) : (L.take i).count L[i] + 1 ≤ L.count L[i] := by
  have h1 := List.Sublist.count_le L[i] (List.take_sublist (i + 1) L)
  rw [List.take_succ_eq_append_getElem h, List.count_append] at h1
  simpa using h1
theorem relN_len (ws : Nat → Nat) : ∀ (L : List Nat) (ws : Nat → Nat), (relN ws L).length ≤ L.length
  | [], ws => by simp [relN]
  | y :: L, ws => by
    rw [relN, List.length_append, List.length_cons]
    have := relN_len ws L (upN ws y (ws y - 1))
    split <;> simp <;> omega

set_option maxHeartbeats 8000000 in
set_option maxRecDepth 100000 in
theorem releaseN {w1 u : World} {R g c n : Nat} {op : Nat → OpD} {ws : Nat → Nat} {f m : Nat → Value} {rdy : Value} {rx : List Nat} {opv : Value} {ops : List OpD} {N : Nat} (S : RM w1 u R g c n op ws f m rdy rx opv ops N) {lv : Value} {L : List Nat} (hl : NumR w1 g lv L) (hL : ∀ y ∈ L, y < n) (hc : ∀ y, L.count y ≤ ws y) (hn : n ≤ 1000) (hw : ∀ y, ws y ≤ 1000000) (hb : rx.length + L.length ≤ 1000) :
    Calls Tryz.prog 144 #[.pointer (some ⟨R, 0, none⟩), lv] u fun e w' => e = .returned (.tuple #[]) ∧ ∃ rdy' rx', RM w1 w' R g c n op (relW ws L) f m rdy' rx' opv ops N ∧ rx'.Perm (relN ws L ++ rx) := by
  have S0 := hidD S
  have HL := hidD hl
  have HLL := hidD hL
  have HC := hidD hc
  have HW := hidD hw
  obtain ⟨la, lc, hlv, _⟩ := hl
  subst hlv
  clear S hL hc hw
  go_enter Tryz.func144, Tryz.ntmps144
  go_wp2_with fail
  go_loopw [8] (fun iv wr => ∃ (i : Nat) (rdy' : Value) (rx' : List Nat), i ≤ L.length ∧ iv = .int .i64 i ∧ Hid (RM w1 wr R g c n op (relW ws (L.take i)) f m rdy' rx' opv ops N) ∧ Hid (rx'.Perm (relN ws (L.take i) ++ rx))) (fun iv _ => L.length - (intOf iv).toNat)
  case atStart => exact ⟨0, rdy, rx, Nat.zero_le _, rfl, S0, List.Perm.refl _⟩
  case round =>
    clear S0
    obtain ⟨i, rdy', rx', hi, rfl, S, P⟩ := hrel
    by_cases hlt : i < L.length
    · obtain ⟨b, c', hv, hcell⟩ := S.out.num HL.out hlt
      cases hv
      have hyn := HLL.out L[i] (List.getElem_mem hlt)
      have htk : L.take (i + 1) = L.take i ++ [L[i]] := List.take_succ_eq_append_getElem hlt
      have hcnt : (L.take i).count L[i] + 1 ≤ ws L[i] := Nat.le_trans (count_at L i hlt) (HC.out L[i])
      have hall := (rel_all (L.take i) ws (fun y => Nat.le_trans (List.Sublist.count_le _ (List.take_sublist i L)) (HC.out y))).1 L[i]
      have hws := HW.out L[i]
      have EW := hidD (relW_snoc (L.take i) ws L[i])
      have EN := hidD (relN_snoc (L.take i) ws L[i])
      rw [← htk] at EW EN
      have hrl : rx'.length ≤ 1000 := by
        have h1 := P.out.length_eq
        rw [List.length_append] at h1
        have h2 := relN_len ws (L.take i) ws
        rw [List.length_take] at h2
        omega
      generalize L[i] = y at *
      obtain ⟨v, hv⟩ : ∃ v : Nat, relW ws (L.take i) y = v + 1 := ⟨relW ws (L.take i) y - 1, by omega⟩
      have G := S.out.st
      have d0 := S.out.r.cell 0 rfl
      have cw : wr.cell? ⟨g, y * 9 + 6, none⟩ = some (.int .i64 ((v + 1 : Nat) : Int)) := by
        rw [← hv]
        exact G.cell _ ((stC_get hyn (by decide)).trans rfl)
      have fw := G.frozen (y * 9 + 6)
      have S1' := S.out.store (y * 9 + 6) (.int .i64 (v : Int)) (by omega) (stC_setW hyn v)
      have hupd : upN (relW ws (L.take i)) y v = relW ws (L.take (i + 1)) := by
        rw [EW.out, hv]; rfl
      rw [hupd] at S1'
      have e0 := S1'.r.cell 0 rfl
      have ew : (wr.setCell ⟨g, y * 9 + 6, none⟩ (.int .i64 (v : Int))).cell? ⟨g, y * 9 + 6, none⟩ = some (.int .i64 (v : Int)) := by
        have := S1'.st.cell (y * 9 + 6) ((stC_get hyn (by decide)).trans rfl)
        rw [this, EW.out, upN_at, hv]
        rfl
      have w9 : IntKind.i64.wrap (v : Int) = (v : Int) := by rw [IntKind.wrap_i64]; omega
      have e9 : ((v + 1 : Nat) : Int) - 1 = (v : Int) := by omega
      have S1 := hidD S1'
      have HP := hidD (pushN S1'.q (Nat.le_trans S1'.gr.size (Nat.le_refl _)) hrl y)
      have hyn' : (y : Int) < (n : Int) := by omega
      have hlt' : (i : Int) < (L.length : Int) := by omega
      generalize hvv : ((v + 1 : Nat) : Int) = vi at *
      clear S1' G S hupd hcnt hall htk
      by_cases h0 : v = 0
      · subst h0
        go_wp2_with fail
        refine HP.out.mono ?_
        rintro e w3 ⟨rfl, g3, c3, ys, hq, hp, hk, _⟩
        have S3 := hidD (S1.out.queue hq hk)
        have P3 : Hid (ys.Perm (relN ws (L.take (i + 1)) ++ rx)) := by
          rw [EN.out, if_pos (by rw [hv])]
          refine hp.trans ((P.out.cons y).trans ?_)
          simp only [List.append_assoc, List.singleton_append]
          exact List.perm_middle.symm
        clear hq hk hp S1 HP
        go_wp2_with fail
        exact ⟨⟨i + 1, _, ys, by omega, by go_num, S3, P3⟩, by simp [intOf]; omega⟩
      · have hz : ((v : Int) == 0) = false := by simp; omega
        have P3 : Hid (rx'.Perm (relN ws (L.take (i + 1)) ++ rx)) := by
          rw [EN.out, if_neg (by rw [hv]; omega), List.append_nil]
          exact P.out
        clear HP
        go_wp2_with fail
        exact ⟨⟨i + 1, rdy', rx', by omega, by go_num, S1, P3⟩, by simp [intOf]; omega⟩
    · have hie : i = L.length := by omega
      subst hie
      rw [List.take_length] at S P
      go_wp2_with fail
      refine bodyPost_end (results_none rfl _ _ _) rfl ?_
      exact ⟨rfl, rdy', rx', S.out, P.out⟩
end Go.Proofs.YtpjjagalekolaaaGreatDoor

/- The run of a plan in memory: a step lets go those that wait for its Path; the steps that are ready are taken. -/
namespace Go.Proofs.YtpjjagalekolaaaGreatDoor
open Go.RowKit
set_option linter.unusedVariables false
set_option linter.unusedSimpArgs false

section
variable {w1 u u' : World} {R g c n : Nat} {op : Nat → OpD} {ws : Nat → Nat} {f m : Nat → Value} {rdy : Value} {rx : List Nat} {opv : Value} {ops : List OpD} {N : Nat}
set_option maxHeartbeats 4000000 in
set_option maxRecDepth 100000 in
theorem freeN (S : RM w1 u R g c n op ws f m rdy rx opv ops N) {k : Nat} {L : List Nat} (hk : k < n) (hl : NumR w1 g (f k) L) (hL : ∀ y ∈ L, y < n) (hc : ∀ y, L.count y ≤ ws y) (hn : n ≤ 1000) (hw : ∀ y, ws y ≤ 1000000) (hb : rx.length + L.length ≤ 1000) :
    Calls Tryz.prog 143 #[.pointer (some ⟨R, 0, none⟩), .int .i64 k] u fun e w' => e = .returned (.tuple #[]) ∧ ∃ rdy' rx', RM w1 w' R g c n op (relW ws L) (upN f k (.slice none 0 0)) m rdy' rx' opv ops N ∧ rx'.Perm (relN ws L ++ rx) := by
  have d0 := S.r.cell 0 rfl
  have cv : u.cell? ⟨g, k * 9 + 7, none⟩ = some (f k) := S.st.cell _ ((stC_get hk (by decide)).trans rfl)
  have HR := hidD (releaseN S hl hL hc hn hw hb)
  obtain ⟨a1, c1, hv, _⟩ := hl
  have hk' : (k : Int) < (n : Int) := by omega
  rw [hv] at cv HR
  have HV := hidD hv
  clear S hv
  go_enter Tryz.func143, Tryz.ntmps143
  go_wp2_with fail
  refine HR.out.mono ?_
  rintro e w2 ⟨rfl, rdy', rx', hS, hp⟩
  have d0' := hS.r.cell 0 rfl
  have cv' : w2.cell? ⟨g, k * 9 + 7, none⟩ = some (f k) := hS.st.cell _ ((stC_get hk (by decide)).trans rfl)
  have fv' := hS.st.frozen (k * 9 + 7)
  rw [HV.out] at cv'
  have S2 := hidD hS
  have P2 := hidD hp
  clear hS HR hp
  go_wp2_with fail
  refine bodyPost_end (results_none rfl _ _ _) rfl ?_
  exact ⟨rfl, rdy', rx', S2.out.store (k * 9 + 7) _ (by omega) (stC_setF hk _), P2.out⟩

/-- An operation more. -/
theorem RM.added (h : RM w1 u R g c n op ws f m rdy rx opv ops N) {opv' : Value} {o : OpD} (ho : u'.ownsRow w1.heap.size 59 6 opv' (ops.length + 1) (flatOp ops ++ o.cells)) (hg : u.grownBy u' opv.ownBlock) : RM w1 (u'.setCell ⟨R, 2, none⟩ opv') R g c n op ws f m rdy rx opv' (ops ++ [o]) N := by
  have hrb : ∀ b, some b = opv.ownBlock → w1.heap.size ≤ b := fun b e => (h.po.lt b e.symm).1
  have hr := h.r.kept hg (blk_row h.r h.po (by decide))
  have hs := h.st.kept hg (blk_row h.st h.po (by decide))
  have g2 := gb_set u' R 2 opv'
  have hfl : flatOp ops ++ o.cells = flatOp (ops ++ [o]) := by simp [flatOp]
  rw [hfl] at ho
  refine ⟨((h.gr.trans (Kpt.of hg (S := fun b => some b = opv.ownBlock) (fun b e => e))).trans (Kpt.of g2 (S := fun b => b = R) (fun b e => by simpa using e))).mono (fun b hb e => ?_), h.ge, h.gl, hr.set 2 opv' (by simp), hs.kept g2 (fun e => h.gR (by simpa using e)), row_blk hr (row_row h.rd h.po (by decide) hg) (by decide) g2, ?_⟩
  · have := h.ge
    rcases e with (e | e) | e
    · exact e
    · have := hrb b e
      omega
    · omega
  · rw [List.length_append]
    exact row_blk hr ho (by decide) g2
end

/-- What stands ahead of the run: who waits for whom, in rows of their own. -/
structure Fix (w1 : World) (g n : Nat) (fv mv : Nat → Value) (fd md : Nat → List Nat) : Prop where
  nf : ∀ k, k < n → NumR w1 g (fv k) (fd k)
  nm : ∀ k, k < n → NumR w1 g (mv k) (md k)
  bn : n ≤ 200
  bf : ∀ k, (fd k).length ≤ 400
  bm : ∀ k, (md k).length ≤ 400
def fcur (fz : Nat → Bool) (fv : Nat → Value) (k : Nat) : Value := if fz k then .slice none 0 0 else fv k
def opAt (s t : List EntD) (ms : List Mean) (A : Nat → Option Nat) (k : Nat) : OpD := match ms[k]? with | some m => opNow s t A m | none => ⟨0, ⟨#[]⟩, ⟨#[]⟩, 0, 0, 0⟩
theorem opAt_at {s t : List EntD} {ms : List Mean} {A : Nat → Option Nat} {k : Nat} {m : Mean} (h : ms[k]? = some m) : opAt s t ms A k = opNow s t A m := by rw [opAt, h]
theorem fcur_up (fz : Nat → Bool) (fv : Nat → Value) (x : Nat) : upN (fcur fz fv) x (.slice none 0 0) = fcur (upN fz x true) fv := by
  funext k
  by_cases e : k = x
  · subst e; rw [upN_at, fcur, upN_at]; rfl
  · rw [upN_ne _ _ e, fcur, fcur, upN_ne _ _ e]
theorem numR_nil (w : World) (g : Nat) : NumR w g (.slice none 0 0) [] := ⟨none, 0, rfl, fun i h => by simp at h⟩
theorem Fix.cur {w1 : World} {g n : Nat} {fv mv : Nat → Value} {fd md : Nat → List Nat} (h : Fix w1 g n fv mv fd md) (fz : Nat → Bool) {k : Nat} (hk : k < n) : NumR w1 g (fcur fz fv k) (if fz k then [] else fd k) := by
  unfold fcur
  cases fz k with
  | true => exact numR_nil _ _
  | false => exact h.nf k hk

section
variable {fold : Bool} {Q : List EntD → Prop} {s t : List EntD} {to fr : Nat → Option Nat} {ms : List Mean} {lv cm : Nat → Option Nat} {fd md : Nat → List Nat} {ws : Nat → Nat} {fz dn : Nat → Bool} {rd : List Nat} {A : Nat → Option Nat} {N : Nat} {ops : List OpD}
theorem Run.perm (U : Run fold Q s t to fr ms lv fd md ws fz dn rd A N ops) {rd' : List Nat} (hp : rd'.Perm rd) : Run fold Q s t to fr ms lv fd md ws fz dn rd' A N ops := ⟨U.R.perm hp, U.st, U.done, U.asd, U.ofp⟩
theorem RInv.leF {n : Nat} (R : RInv n fd md ws fz dn rd) {x : Nat} (hx : x < n) (hz : fz x = false) : ∀ y, (fd x).count y ≤ ws y := fun y => by
  by_cases hy : y < n
  · have := cntE_ge (fd := fd) (y := y) hz n hx
    have := R.cnt y hy
    omega
  · have : (fd x).count y = 0 := List.count_eq_zero.2 (fun h => hy (R.fb x y h).2)
    omega
theorem RInv.leM {n : Nat} (R : RInv n fd md ws fz dn rd) {x : Nat} (hx : x < n) (hd : dn x = false) : ∀ y, (md x).count y ≤ ws y := fun y => by
  by_cases hy : y < n
  · have := cntE_ge (fd := md) (y := y) hd n hx
    have := R.cnt y hy
    omega
  · have : (md x).count y = 0 := List.count_eq_zero.2 (fun h => hy (R.mb x y h).2)
    omega
theorem relW_le : ∀ (L : List Nat) (ws : Nat → Nat) (y : Nat), relW ws L y ≤ ws y
  | [], ws, y => Nat.le_refl _
  | x :: L, ws, y => by
    rw [relW]
    refine Nat.le_trans (relW_le L _ y) ?_
    by_cases e : y = x
    · subst e; rw [upN_at]; omega
    · rw [upN_ne _ _ e]; exact Nat.le_refl _
theorem Run.bounds (H : Plan0 fold Q s t to fr ms lv cm fd md) (U : Run fold Q s t to fr ms lv fd md ws fz dn rd A N ops) : rd.length ≤ ms.length ∧ ops.length ≤ ms.length + 60 ∧ ms.length ≤ 180 := by
  have h1 := nodup_lt ms.length rd U.R.nd (fun y hy => (U.R.ready y hy).1)
  obtain ⟨dl, g1, g2, g3⟩ := U.done
  obtain ⟨al, a1, a2, a3, a4⟩ := U.asd
  have h2 := nodup_lt ms.length dl g1 (fun k h => (U.R.d0 k ((g2 k).1 h)).1)
  have h3 := nodup_lt s.length al a1 (fun i h => (a2 i h).1)
  have := H.few
  have := H.P.ls
  have := H.P.lt
  omega
end
end Go.Proofs.YtpjjagalekolaaaGreatDoor

/- The run of a plan in memory: the steps that are ready are taken, till none is. -/
namespace Go.Proofs.YtpjjagalekolaaaGreatDoor
open Go.RowKit
set_option linter.unusedVariables false
set_option linter.unusedSimpArgs false

theorem opCells_one (o : OpD) : ∀ x ∈ o.cells, x.oneCell' = true := by
  intro x hx
  simp only [OpD.cells, List.mem_cons, List.not_mem_nil, or_false] at hx
  rcases hx with rfl | rfl | rfl | rfl | rfl | rfl <;> rfl
theorem RInv.freeL {n : Nat} {fd md : Nat → List Nat} {ws : Nat → Nat} {fz dn : Nat → Bool} {rd L : List Nat} (R : RInv n fd md ws fz dn rd) {x : Nat} (hx : x < n) (hd : dn x = false) (hL : L = if fz x then [] else fd x) : RInv n fd md (relW ws L) (upN fz x true) dn (relN ws L ++ rd) ∧ (∀ y, L.count y ≤ ws y) ∧ ∀ y ∈ L, y < n := by
  cases hz : fz x with
  | false =>
    rw [hz] at hL
    simp only [Bool.false_eq_true, if_false] at hL
    subst hL
    exact ⟨R.free hx hz hd, R.leF hx hz, fun y hy => (R.fb x y hy).2⟩
  | true =>
    rw [hz] at hL
    simp only [if_true] at hL
    subst hL
    have : upN fz x true = fz := by
      funext y
      by_cases e : y = x
      · subst e; rw [upN_at, hz]
      · rw [upN_ne _ _ e]
    rw [this]
    exact ⟨R, fun y => by simp, fun y hy => by cases hy⟩
/-- How many operations there are by now. -/
def lenAt (w : World) (R : Nat) : Nat := match w.cell? ⟨R, 2, none⟩ with | some (.slice _ n _) => n | _ => 0
theorem lenAt_of {w : World} {R n c : Nat} {a : Option Addr} (h : w.cell? ⟨R, 2, none⟩ = some (.slice a n c)) : lenAt w R = n := by rw [lenAt, h]
/-- The run, plainly and in memory. -/
def RL (fold : Bool) (Q : List EntD → Prop) (s t : List EntD) (to fr : Nat → Option Nat) (ms : List Mean) (lv : Nat → Option Nat) (fd md : Nat → List Nat) (w1 u : World) (R g c : Nat) (fv mv : Nat → Value) (fz dn : Nat → Bool) (rd : List Nat) (A : Nat → Option Nat) (N : Nat) (ops : List OpD) : Prop :=
  ∃ ws rdy opv, Run fold Q s t to fr ms lv fd md ws fz dn rd A N ops ∧ RM w1 u R g c ms.length (opAt s t ms A) ws (fcur fz fv) mv rdy rd opv ops N ∧ ∀ y, ws y ≤ 1000000

/-- A step that has been taken out of the queue: its operation is told. -/
theorem RM.opCells {w1 u : World} {R g c n : Nat} {op : Nat → OpD} {ws : Nat → Nat} {f m : Nat → Value} {rdy : Value} {rx : List Nat} {opv : Value} {ops : List OpD} {N : Nat} (S : RM w1 u R g c n op ws f m rdy rx opv ops N) {x : Nat} (hx : x < n) : u.cell? ⟨g, x * 9, none⟩ = some (.int .i64 (op x).kind) ∧ u.cell? ⟨g, x * 9 + 1, none⟩ = some (.string (op x).path) ∧ u.cell? ⟨g, x * 9 + 2, none⟩ = some (.string (op x).dest) ∧ u.cell? ⟨g, x * 9 + 3, none⟩ = some (.int .i64 (op x).id) ∧ u.cell? ⟨g, x * 9 + 4, none⟩ = some (.int .i64 (op x).size) ∧ u.cell? ⟨g, x * 9 + 5, none⟩ = some (.int .i64 (op x).mode) :=
  ⟨S.st.cell (x * 9 + 0) ((stC_get hx (by decide)).trans rfl), S.st.cell _ ((stC_get hx (by decide)).trans rfl), S.st.cell _ ((stC_get hx (by decide)).trans rfl), S.st.cell _ ((stC_get hx (by decide)).trans rfl), S.st.cell _ ((stC_get hx (by decide)).trans rfl), S.st.cell _ ((stC_get hx (by decide)).trans rfl)⟩

set_option maxHeartbeats 16000000 in
set_option maxRecDepth 100000 in
theorem takeReadyN {fold : Bool} {Q : List EntD → Prop} {s t : List EntD} {to fr : Nat → Option Nat} {ms : List Mean} {lv cm : Nat → Option Nat} {fd md : Nat → List Nat} {w1 u : World} {R g c : Nat} {fv mv : Nat → Value} {fz dn : Nat → Bool} {rd : List Nat} {A : Nat → Option Nat} {N : Nat} {ops : List OpD} (H : Plan0 fold Q s t to fr ms lv cm fd md) (F : Fix w1 g ms.length fv mv fd md) (X : RL fold Q s t to fr ms lv fd md w1 u R g c fv mv fz dn rd A N ops) :
    Calls Tryz.prog 94 #[.pointer (some ⟨R, 0, none⟩)] u fun e w' => e = .returned (.tuple #[]) ∧ ∃ fz' dn' ops', RL fold Q s t to fr ms lv fd md w1 w' R g c fv mv fz' dn' [] A N ops' := by
  obtain ⟨i0, hi, hz0, hz1, hz2⟩ := info_parts info59
  have HH := hidD H
  have HF := hidD F
  have X0 := hidD X
  clear H F X
  go_enter Tryz.func94, Tryz.ntmps94
  go_wp2_with fail
  go_loopw [2] (fun kv wr => ∃ (fz' dn' : Nat → Bool) (rd' : List Nat) (ops' : List OpD), Hid (RL fold Q s t to fr ms lv fd md w1 wr R g c fv mv fz' dn' rd' A N ops')) (fun _ wr => 1000 - lenAt wr R)
  case atStart => exact ⟨fz, dn, rd, ops, X0⟩
  case round =>
    clear X0
    obtain ⟨fz1, dn1, rd1, ops1, X⟩ := hrel
    obtain ⟨ws, rdy, opv, hU, hS, hW⟩ := X.out
    have U := hidD hU
    have S := hidD hS
    have W := hidD hW
    obtain ⟨b1, b2, b3⟩ := hU.bounds HH.out
    have d1 := hS.r.cell 1 rfl
    have hlen0 : lenAt wr R = ops1.length := by
      obtain ⟨a, c', hv⟩ := row_shape0 hS.po
      have := hS.r.cell 2 rfl
      rw [hv] at this
      exact lenAt_of this
    clear X hU hW
    by_cases h0 : rd1 = []
    · subst h0
      obtain ⟨a, c', hv⟩ := row_shape0 hS.rd
      subst hv
      clear hS
      go_wp2_with fail
      refine (len80 _ _ _ _).mono ?_
      rintro e wz ⟨rfl, hwz⟩; rw [hwz]; clear hwz
      go_wp2_with fail
      refine bodyPost_end (results_none rfl _ _ _) rfl ?_
      exact ⟨rfl, fz1, dn1, ops1, ws, _, opv, U.out, S.out, W.out⟩
    · obtain ⟨m0, hm0⟩ : ∃ m0, rd1.length = m0 + 1 := ⟨rd1.length - 1, by have := List.length_pos_iff.2 h0; omega⟩
      obtain ⟨q, cq, hv⟩ := row_form hS.rd (by omega)
      subst hv
      rw [hm0] at d1
      have hq := hS.q
      rw [hm0] at hq
      have HP := hidD (popN hq hm0 (by omega))
      have hpos : (0 : Int) < ((m0 + 1 : Nat) : Int) := by omega
      generalize hn1 : m0 + 1 = n1 at *
      clear hS hq
      go_wp2_with fail
      refine (len80 _ _ _ _).mono ?_
      rintro e wz ⟨rfl, hwz⟩; rw [hwz]; clear hwz
      go_wp2_with fail
      refine HP.out.mono ?_
      rintro e u1 ⟨x, ys, rfl, hp, hq, hk⟩
      have hta : ∀ (w : World), (Instr.typeAssert (.iface 3 (.int .i64 (x : Int))) 20 3 false).run Tryz.prog w = .ok (.int .i64 (x : Int)) w := fun w => by kernel_rfl
      have S1 := hidD (S.out.queue hq (hk.mono (fun b _ h => h.imp id (fun e => by rw [e]; rfl))))
      obtain ⟨m, hm, hdx, hT⟩ := U.out.take HH.out hp
      have HT := hidD (hT _ rfl)
      have hxn : x < ms.length := (List.getElem?_eq_some_iff.1 hm).1
      have hop : opAt s t ms A x = opNow s t A m := opAt_at hm
      have R1 := hidD U.out.R
      clear hT hq hk HP S d1 hp
      obtain ⟨sa, sn, sc, hsv⟩ := shape_of S1.out.po
      subst hsv
      obtain ⟨o, ho⟩ : ∃ o, opAt s t ms A x = o := ⟨_, rfl⟩
      obtain ⟨q0, q1, q2, q3, q4, q5⟩ := S1.out.opCells hxn
      rw [ho] at q0 q1 q2 q3 q4 q5
      rw [← hop, ho] at HT
      have HO := hidD ho
      obtain ⟨L, hL⟩ : ∃ L, L = if fz1 x then [] else fd x := ⟨_, rfl⟩
      have hLr := HF.out.cur fz1 hxn
      rw [← hL] at HT hLr
      obtain ⟨hR2, hLc, hLn⟩ := R1.out.freeL hxn hdx hL
      have hLl : L.length ≤ 400 := by
        rw [hL]
        split
        · simp
        · exact HF.out.bf x
      have FR := hidD (⟨hLr, hLn, hLc⟩ : NumR w1 g (fcur fz1 fv x) L ∧ (∀ y ∈ L, y < ms.length) ∧ ∀ y, L.count y ≤ ws y)
      have GM := hidD (⟨HF.out.nm x hxn, fun y hy => (R1.out.mb x y hy).2, hR2.leM hxn hdx⟩ : NumR w1 g (mv x) (md x) ∧ (∀ y ∈ md x, y < ms.length) ∧ ∀ y, (md x).count y ≤ relW ws L y)
      have hMl := HF.out.bm x
      have hyl : ys.length ≤ 180 := by
        have := HT.out.bounds HH.out
        simp only [List.length_append] at this
        omega
      have hr2l : (relN ws L ++ ys).length ≤ 580 := by
        have := relN_len ws L ws
        rw [List.length_append]
        omega
      have hx' : (x : Int) < (ms.length : Int) := by omega
      clear hLr hR2 hLc hLn hop ho hm hL R1 hdx
      obtain ⟨ok, op, od, oi, oz, om⟩ := o
      dsimp only at q0 q1 q2 q3 q4 q5
      go_wp2_with fail
      have hbU : Below u1.heap.size u1 (u1.alloc (.cells #[.int .i64 ok, .string op, .string od, .int .i64 oi, .int .i64 oz, .int .i64 om] 59)).drew := (box_below u1 #[.int .i64 ok, .string op, .string od, .int .i64 oi, .int .i64 oz, .int .i64 om] 59).trans (Below.mono (below_drewB _) (by simp))
      have S2 := hidD (S1.out.below hbU)
      have a0 := S1.out.r.cell 0 rfl
      have a2 := S1.out.r.cell 2 rfl
      have d2' : (u1.alloc (.cells #[.int .i64 ok, .string op, .string od, .int .i64 oi, .int .i64 oz, .int .i64 om] 59)).cell? ⟨R, 2, none⟩ = some (.slice sa sn sc) := S2.out.r.cell 2 rfl
      have d0' : (u1.alloc (.cells #[.int .i64 ok, .string op, .string od, .int .i64 oi, .int .i64 oz, .int .i64 om] 59)).cell? ⟨R, 0, none⟩ = some (.slice (some ⟨g, 0, none⟩) ms.length c) := S2.out.r.cell 0 rfl
      have hz2' : w1.heap.size ≤ (u1.alloc (.cells #[.int .i64 ok, .string op, .string od, .int .i64 oi, .int .i64 oz, .int .i64 om] 59)).drew.heap.size := S2.out.gr.size
      have D6 := hidD (fun (w6 : World) (hg : (u1.alloc (.cells #[.int .i64 ok, .string op, .string od, .int .i64 oi, .int .i64 oz, .int .i64 om] 59)).drew.grownBy w6 (Value.slice sa sn sc).ownBlock) => S2.out.r.kept hg (blk_row S2.out.r S2.out.po (by decide)))
      go_region_law ((refine step_append_lies _ (by rfl) (.tmp 20) (.tmp 29) 33 (by rfl) w1.heap.size 59 i0 _ 6 64 Tryz.underlying33 hi hz0 hz1 hz2 rfl (by decide) (.slice sa sn sc) _ _ (by rfl) S2.out.po ⟨u1.heap.size, 0, none⟩ 1 1 (OpD.cells ⟨ok, op, od, oi, oz, om⟩) (by rfl) rfl (new_at u1 59 (OpD.cells ⟨ok, op, od, oi, oz, om⟩)) (opCells_one _) (by decide) (by unfold maxLen; omega) (by omega) hz2' _ rfl ?_; intro g6 c6 w6 hown6 hg6 hat6 hlt6; have e5 := (D6.out w6 hg6).cell 2 rfl; have f5 := (D6.out w6 hg6).frozen 2; have e50 := (D6.out w6 hg6).cell 0 rfl))
      all_goals
        have S7 := hidD (S2.out.added (o := ⟨ok, op, od, oi, oz, om⟩) hown6 hg6)
        generalize w6.setCell ⟨R, 2, none⟩ (.slice (some ⟨g6, 0, none⟩) (ops1.length + 1) c6) = v1 at *
        have FF := hidD (freeN S7.out hxn FR.out.1 FR.out.2.1 FR.out.2.2 (by omega) W.out (by omega))
        clear hown6 hg6 hat6 hlt6 e5 f5 e50 D6 S2 S1 hbU hz2' d2' d0' a0 a2 q0 q1 q2 q3 q4 q5 hta
        go_wp2_with fail
        refine FF.out.mono ?_
        rintro e v2 ⟨rfl, rdy2, rx2, hS8, hP8⟩
        rw [fcur_up] at hS8
        have x0 := hS8.r.cell 0 rfl
        have x8 : v2.cell? ⟨g, x * 9 + 8, none⟩ = some (mv x) := hS8.st.cell _ ((stC_get hxn (by decide)).trans rfl)
        have hrx : rx2.length + (md x).length ≤ 1000 := by
          have := hP8.length_eq
          omega
        have RR := hidD (releaseN hS8 GM.out.1 GM.out.2.1 GM.out.2.2 (by omega) (fun y => Nat.le_trans (relW_le L ws y) (W.out y)) hrx)
        obtain ⟨ma, mc, hmv, _⟩ := GM.out.1
        rw [hmv] at x8 RR
        have P8 := hidD hP8
        clear hS8 hP8 FF S7 hrx hmv
        go_wp2_with fail
        refine RR.out.mono ?_
        rintro e v3 ⟨rfl, rdy3, rx3, hS9, hP9⟩
        have hl9 := lenAt_of (hS9.r.cell 2 rfl)
        have X9 : Hid (RL fold Q s t to fr ms lv fd md w1 v3 R g c fv mv (upN fz1 x true) (upN dn1 x true) rx3 A N (ops1 ++ [⟨ok, op, od, oi, oz, om⟩])) := ⟨_, rdy3, _, HT.out.perm (hP9.trans (List.Perm.append_left _ P8.out)), hS9, fun y => Nat.le_trans (relW_le _ _ y) (Nat.le_trans (relW_le L ws y) (W.out y))⟩
        clear hS9 hP9 RR P8 HT
        go_wp2_with fail
        refine ⟨⟨_, _, rx3, _, X9⟩, ?_⟩
        rw [hl9, hlen0]
        omega
end Go.Proofs.YtpjjagalekolaaaGreatDoor

/- Rows of numbers that are read: cloned, and put one behind another. -/
namespace Go.Proofs.YtpjjagalekolaaaGreatDoor
open Go.RowKit
set_option linter.unusedVariables false
set_option linter.unusedSimpArgs false

/-- A row of numbers that may be read. -/
def RdN (u : World) (v : Value) (L : List Nat) : Prop := ∃ a c, v = .slice a L.length c ∧ ∀ (i : Nat) (h : i < L.length), ∃ b off, a = some ⟨b, off, none⟩ ∧ b < u.heap.size ∧ u.cell? ⟨b, off + i, none⟩ = some (.int .i64 (L[i] : Int))
theorem RdN.below {u u' : World} {v : Value} {L : List Nat} (h : RdN u v L) (hb : Below u.heap.size u u') : RdN u' v L := by
  obtain ⟨a, c, rfl, h1⟩ := h
  refine ⟨a, c, rfl, fun i hi => ?_⟩
  obtain ⟨b, off, h2, h3, h4⟩ := h1 i hi
  exact ⟨b, off, h2, Nat.lt_of_lt_of_le h3 hb.size, by rw [hb.cell (p := ⟨b, off + i, none⟩) h3]; exact h4⟩
theorem RdN.form {u : World} {v : Value} {L : List Nat} (h : RdN u v L) (h0 : 0 < L.length) : ∃ b off c, v = .slice (some ⟨b, off, none⟩) L.length c ∧ b < u.heap.size ∧ ∀ (i : Nat) (h : i < L.length), u.cell? ⟨b, off + i, none⟩ = some (.int .i64 (L[i] : Int)) := by
  obtain ⟨a, c, rfl, h1⟩ := h
  obtain ⟨b, off, rfl, h3, _⟩ := h1 0 h0
  refine ⟨b, off, c, rfl, h3, fun i hi => ?_⟩
  obtain ⟨b', off', h2, _, h4⟩ := h1 i hi
  cases h2
  exact h4
theorem RdN.own {u : World} {B : Nat} {v : Value} {L : List Nat} (h : u.ownsRow B 3 1 v L.length (numV L)) : RdN u v L := by
  by_cases h0 : 0 < L.length
  · obtain ⟨g, c, hv⟩ := row_form h h0
    subst hv
    exact ⟨_, c, rfl, fun i hi => ⟨g, 0, rfl, (blk_of_row h).lt, by rw [Nat.zero_add]; exact (blk_of_row h).cell i (numV_get L i hi)⟩⟩
  · obtain ⟨a, c, hv⟩ := row_shape0 h
    exact ⟨a, c, hv, fun i hi => by omega⟩
theorem RM.rd' {w1 u : World} {R g c n : Nat} {op : Nat → OpD} {ws : Nat → Nat} {f m : Nat → Value} {rdy : Value} {rx : List Nat} {opv : Value} {ops : List OpD} {N : Nat} (h : RM w1 u R g c n op ws f m rdy rx opv ops N) {v : Value} {L : List Nat} (hl : NumR w1 g v L) : RdN u v L := by
  obtain ⟨a, c, rfl, h1⟩ := hl
  refine ⟨a, c, rfl, fun i hi => ?_⟩
  obtain ⟨b, h2, h3, h4, h5⟩ := h1 i hi
  exact ⟨b, 0, h2, Nat.lt_of_lt_of_le h3 h.gr.size, by rw [Nat.zero_add, World.cell?_of_block (a := ⟨b, i, none⟩) (h.gr.block b h3 h4)]; exact h5⟩

theorem append_rd {w : World} {B : Nat} {v src : Value} {xs L : List Nat} (ho : w.ownsRow B 3 1 v xs.length (numV xs)) (hs : RdN w src L) (hb : B ≤ w.heap.size) (hl : xs.length + L.length ≤ 1000000) :
    ∃ v' w', (Builtin.append_ #[23, 23] 23 #[v, src]).run Tryz.prog w = .ok v' w' ∧ w'.ownsRow B 3 1 v' (xs ++ L).length (numV (xs ++ L)) ∧ w.grownBy w' v.ownBlock := by
  obtain ⟨i0, hi, hz0, hz1, hz2⟩ := info_parts info3
  by_cases h0 : 0 < L.length
  · obtain ⟨b, off, c, rfl, hlt, hc⟩ := hs.form h0
    obtain ⟨v', w', h1, h2, h3, _⟩ := run_append_own w B 23 23 3 i0 _ 1 8 Tryz.underlying23 hi hz0 hz1 hz2 rfl (by decide) v xs.length (numV xs) ho ⟨b, off, none⟩ L.length c (numV L) (by rw [numV_len, Nat.mul_one]) (fun j x hx => by
      have hj : j < L.length := by
        have := (List.getElem?_eq_some_iff.1 hx).1
        rwa [numV_len] at this
      rw [numV_get L j hj] at hx
      cases hx
      rw [Addr.add_lit]
      exact hc j hj) (numV_one L) (by unfold maxLen; omega) (by omega) hb
    refine ⟨v', w', h1, ?_, h3⟩
    have : numV xs ++ numV L = numV (xs ++ L) := by simp [numV]
    rw [this] at h2
    rw [List.length_append]
    exact h2
  · have : L = [] := List.eq_nil_of_length_eq_zero (by omega)
    subst this
    obtain ⟨a, c, rfl, _⟩ := hs
    rw [List.append_nil]
    exact ⟨v, w, run_append_zero (P := Tryz.prog) w B 23 23 3 i0 1 Tryz.underlying23 hi hz1 v xs.length (numV xs) ho a c, ho, World.grownBy.refl _ _⟩

set_option maxHeartbeats 4000000 in
set_option maxRecDepth 100000 in
theorem cloneN {w : World} {v : Value} {L : List Nat} (h : RdN w v L) (hl : L.length ≤ 1000000) :
    Calls Tryz.prog 184 #[v] w fun e w' => ∃ v', e = .returned v' ∧ w'.ownsRow w.heap.size 3 1 v' L.length (numV L) ∧ Below w.heap.size w w' := by
  have hneq := fun (u : World) (a : Option Addr) (n c : Nat) => Lib.run_eql_slice_nil (P := Tryz.prog) u 23 3 a n c 0 0 Tryz.underlying23
  obtain ⟨a, c, hv, _⟩ := id h
  subst hv
  have hb1 : Below w.heap.size w (w.alloc (.cells #[] 3)) := (Below.refl _ _).alloc (Nat.le_refl _) _
  cases a with
  | none =>
    have hL : L = [] := by
      by_cases h0 : 0 < L.length
      · obtain ⟨b, off, c', hv, _⟩ := h.form h0
        cases hv
      · exact List.eq_nil_of_length_eq_zero (by omega)
    subst hL
    clear h hb1
    go_enter Tryz.func184, Tryz.ntmps184
    go_wp2
    go_ret
    exact ⟨_, rfl, World.ownsRow_nil _ _ _ _, Below.refl _ _⟩
  | some ad =>
    obtain ⟨v', w', h1, h2, h3⟩ := append_rd (xs := []) (own_emptyI w) (h.below hb1) hb1.size (by simpa using hl)
    have HR := hidD h1
    have HB := hidD hb1
    have HO := hidD (own_emptyI w)
    rw [List.nil_append] at h2
    have H2 := hidD h2
    have H3 := hidD h3
    obtain ⟨p1, p2, p3, hp⟩ := shape_of h2
    subst hp
    clear h h1 hb1 h2 h3
    go_enter Tryz.func184, Tryz.ntmps184
    go_wp2_with (at_builtin; refine Lib.wpList_append_run _ rfl _ _ _ _ rfl _ _ rfl rfl _ _ HR.out ?_)
    go_ret
    exact ⟨_, rfl, H2.out, HB.out.grown H3.out HB.out.size (fun q hq => (HO.out.lt q hq).1)⟩

set_option maxHeartbeats 4000000 in
set_option maxRecDepth 100000 in
theorem growN (w : World) (m : Nat) (hm : m ≤ 1000000) :
    Calls Tryz.prog 207 #[.slice none 0 0, .int .i64 m] w fun e w' => ∃ v, e = .returned v ∧ w'.ownsRow w.heap.size 3 1 v 0 [] ∧ Below w.heap.size w w' := by
  by_cases h0 : m = 0
  · subst h0
    go_enter Tryz.func207, Tryz.ntmps207
    go_wp2
    go_ret
    exact ⟨_, rfl, World.ownsRow_nil _ _ _ _, Below.refl _ _⟩
  · obtain ⟨i0, hi, hz0, hz1, hz2⟩ := info_parts info3
    have hm1 : (0 : Int) < (m : Int) := by omega
    have hm2 : ¬ (m : Int) < 0 := by omega
    have hrun : ∀ ty, (Builtin.append_ #[23, 3] ty #[.slice none 0 0, .int .i64 (m : Int)]).run Tryz.prog w =
        .ok (.slice (some ⟨w.heap.size, 0, none⟩) m (grownCap w m 0 3)) (w.drew.alloc (.cells (#[] ++ Builtin.zeroCells (Value.int .i64 0).cells m ++ Builtin.zeroCells (Value.int .i64 0).cells (grownCap w m 0 3 - m)) 3)) := fun ty => by
      have h := Lib.run_append_grow_zeros (P := Tryz.prog) w 23 3 ty 3 i0 _ .i64 .i64 Tryz.underlying23 Tryz.underlying3 hi hz0 none 0 0 [] (run_firstCells_none w.drew i0.size 0 0 0) m (by omega) (by rw [hz1]; decide) (by omega) (by omega) (by rw [hz2]; omega) (by rw [hz2]; exact growslice_fits (by omega) (by omega))
      simpa using h
    have hG1 := grownCap_ge w m 0 3
    have hG2 := grownCap_le_maxLen w m 0 3 (by unfold maxLen; omega)
    have hown : ∀ cur : Array Value, cur.size = grownCap w m 0 3 * 1 → (w.drew.alloc (.cells cur 3)).ownsRow w.heap.size 3 1 (.slice (some ⟨w.heap.size, 0, none⟩) 0 (grownCap w m 0 3)) 0 [] := fun cur hc => World.ownsRow_made w.drew cur (grownCap w m 0 3) (Nat.le_refl _) hG2 hc
    have HO := hidD (hown (#[] ++ Builtin.zeroCells (Value.int .i64 0).cells m ++ Builtin.zeroCells (Value.int .i64 0).cells (grownCap w m 0 3 - m)) (by
      have h5 : (Value.int .i64 0).cells.size = 1 := rfl
      rw [Array.size_append, Array.size_append, size_zeroCells, size_zeroCells, h5]
      simp; omega))
    clear hown
    generalize (#[] ++ Builtin.zeroCells (Value.int .i64 0).cells m ++ Builtin.zeroCells (Value.int .i64 0).cells (grownCap w m 0 3 - m)) = cur at *
    generalize grownCap w m 0 3 = G at *
    have HR := hidD hrun
    clear hrun
    have hG3 : G ≤ 9223372036854775807 := by unfold maxLen at hG2; omega
    have hG4 : ¬ G = 0 := by omega
    go_enter Tryz.func207, Tryz.ntmps207
    go_wp2_with (at_builtin; refine Lib.wpList_append_run _ rfl _ _ _ _ rfl _ _ rfl rfl _ _ (HR.out _) ?_)
    go_ret
    exact ⟨_, rfl, HO.out, (Below.refl _ _).drew.alloc (Nat.le_refl _) _⟩

set_option maxHeartbeats 8000000 in
set_option maxRecDepth 100000 in
theorem concatN {w : World} {pb : Nat} {v0 v1 v2 : Value} {L0 L1 L2 : List Nat} (hp : Blk w pb 23 [v0, v1, v2]) (h0 : RdN w v0 L0) (h1 : RdN w v1 L1) (h2 : RdN w v2 L2) (hl0 : L0.length ≤ 300000) (hl1 : L1.length ≤ 300000) (hl2 : L2.length ≤ 300000) :
    Calls Tryz.prog 185 #[.slice (some ⟨pb, 0, none⟩) 3 3] w fun e w' => ∃ v, e = .returned v ∧ w'.ownsRow w.heap.size 3 1 v (L0 ++ L1 ++ L2).length (numV (L0 ++ L1 ++ L2)) ∧ Below w.heap.size w w' := by
  have H0 := hidD h0
  have H1 := hidD h1
  have H2 := hidD h2
  have HP := hidD hp
  obtain ⟨a0, c0, e0, _⟩ := h0
  obtain ⟨a1, c1, e1, _⟩ := h1
  obtain ⟨a2, c2, e2, _⟩ := h2
  subst e0 e1 e2
  have p0 := hp.cell 0 rfl
  have p1 := hp.cell 1 rfl
  have p2 := hp.cell 2 rfl
  obtain ⟨n0, hn0⟩ : ∃ n, L0.length = n := ⟨_, rfl⟩
  obtain ⟨n1, hn1⟩ : ∃ n, L1.length = n := ⟨_, rfl⟩
  obtain ⟨n2, hn2⟩ : ∃ n, L2.length = n := ⟨_, rfl⟩
  obtain ⟨m1, hm1⟩ : ∃ m, n0 + n1 = m := ⟨_, rfl⟩
  obtain ⟨m2, hm2⟩ : ∃ m, m1 + n2 = m := ⟨_, rfl⟩
  rw [hn0] at p0 hl0
  rw [hn1] at p1 hl1
  rw [hn2] at p2 hl2
  have x0 : IntKind.i64.wrap (n0 : Int) = (n0 : Int) := by rw [IntKind.wrap_i64]; omega
  have x1 : (n0 : Int) + (n1 : Int) = (m1 : Int) := by omega
  have x2 : (m1 : Int) + (n2 : Int) = (m2 : Int) := by omega
  have x3 : IntKind.i64.wrap (m1 : Int) = (m1 : Int) := by rw [IntKind.wrap_i64]; omega
  have x4 : IntKind.i64.wrap (m2 : Int) = (m2 : Int) := by rw [IntKind.wrap_i64]; omega
  have y0 : ¬ (n0 : Int) < 0 := by omega
  have y1 : ¬ (m1 : Int) < 0 := by omega
  have y2 : ¬ (m2 : Int) < 0 := by omega
  have hm3 : m2 ≤ 1000000 := by omega
  clear hp
  go_enter Tryz.func185, Tryz.ntmps185
  go_wp2
  refine wp_loop_rounds 4 ?_
  rw [rounds_succ]
  go_wp2_with fail
  rw [rounds_succ]
  go_wp2_with fail
  rw [rounds_succ]
  go_wp2_with fail
  rw [rounds_succ]
  go_wp2_with fail
  refine (growN _ m2 hm3).mono ?_
  rintro e w1 ⟨v3, rfl, hown1, hb1⟩
  obtain ⟨b3, c3, hv3⟩ := row_shape0 hown1
  subst hv3
  obtain ⟨v4, w4, r4, o4, g4⟩ := append_rd (xs := []) hown1 (H0.out.below hb1) hb1.size (by simp; omega)
  rw [List.nil_append] at o4
  have hbel4 := hb1.grown g4 hb1.size (fun q hq => (hown1.lt q hq).1)
  obtain ⟨v5, w5, r5, o5, g5⟩ := append_rd o4 (H1.out.below hbel4) hbel4.size (by omega)
  have hbel5 := hbel4.grown g5 hbel4.size (fun q hq => (o4.lt q hq).1)
  obtain ⟨v6, w6, r6, o6, g6⟩ := append_rd o5 (H2.out.below hbel5) hbel5.size (by rw [List.length_append]; omega)
  have hbel6 := hbel5.grown g6 hbel5.size (fun q hq => (o5.lt q hq).1)
  obtain ⟨s4, k4, hs4⟩ := row_shape0 o4
  obtain ⟨s5, k5, hs5⟩ := row_shape0 o5
  obtain ⟨s6, k6, hs6⟩ := row_shape0 o6
  subst hs4 hs5 hs6
  have q0 := (HP.out.below hb1).cell 0 rfl
  have q1 := (HP.out.below hbel4).cell 1 rfl
  have q2 := (HP.out.below hbel5).cell 2 rfl
  rw [hn0] at q0 r4 r5
  rw [hn1] at q1 r5
  rw [hn2] at q2 r6
  have l5 : (L0 ++ L1).length = m1 := by rw [List.length_append]; omega
  have l6 : (L0 ++ L1 ++ L2).length = m2 := by rw [List.length_append]; omega
  rw [l5] at r5 r6
  rw [l6] at r6
  have R4 := hidD r4
  have R5 := hidD r5
  have R6 := hidD r6
  have O6 := hidD o6
  have B6 := hidD hbel6
  clear r4 r5 r6 o4 o5 o6 g4 g5 g6 hbel4 hbel5 hbel6 hown1 hb1 p0 p1 p2 H0 H1 H2 HP
  go_wp2_with fail
  refine wp_loop_rounds 4 ?_
  rw [rounds_succ]
  go_wp2_with (at_builtin; refine Lib.wpList_append_run _ rfl _ _ _ _ rfl _ _ rfl rfl _ _ R4.out ?_)
  rw [rounds_succ]
  go_wp2_with (at_builtin; refine Lib.wpList_append_run _ rfl _ _ _ _ rfl _ _ rfl rfl _ _ R5.out ?_)
  rw [rounds_succ]
  go_wp2_with (at_builtin; refine Lib.wpList_append_run _ rfl _ _ _ _ rfl _ _ rfl rfl _ _ R6.out ?_)
  rw [rounds_succ]
  go_wp2_with fail
  go_ret
  exact ⟨_, rfl, by rw [l6] at O6 ⊢; exact O6.out, B6.out⟩
end Go.Proofs.YtpjjagalekolaaaGreatDoor

