/- Many volumes side by side: what stays as they are changed in turns. -/
import Derived.Test.YtehkdjdflgknnaaGreatDoorZZA
import Derived.Test.YtehkdjdflgknnaaGreatDoorZHE
namespace Go.Proofs.YtehkdjdflgknnaaGreatDoor
open Go.RowKit
set_option linter.unusedVariables false
set_option linter.unusedSimpArgs false

/-- All blocks stay but those of some types. -/
def Off (ts : List TypeId) (w w' : World) : Prop := ∀ (b : Nat) (c : Array Value) (T : TypeId), w.heap[b]? = some (.cells c T (0, 0)) → T ∉ ts → w'.heap[b]? = w.heap[b]?
theorem Off.of_below {ts : List TypeId} {w w' : World} (h : Below w.heap.size w w') : Off ts w w' := fun b c T hc _ => h.block b (Array.getElem?_eq_some_iff.1 hc).1
theorem Off.of_row {w w' : World} {base e size n : Nat} {v : Value} {xs : List Value} (h : w.ownsRow base e size v n xs) (hg : w.grownBy w' v.ownBlock) : Off [e] w w' := fun b c T hc hT => hg.block b (Array.getElem?_eq_some_iff.1 hc).1 (fun hb => row_far h hc (fun he => hT (by rw [he]; simp)) hb.symm)
theorem Off.of_vk {T : TypeId} {w w' : World} {vb : Nat} {v : Value} {fold : Bool} {space : Int} {rest : List Value} (h : Vk T w vb v fold space rest) (hg : w.grownBy w' (some vb)) : Off [T] w w' := fun b c T' hc hT => hg.block b (Array.getElem?_eq_some_iff.1 hc).1 (fun hb => by
  cases hb
  rw [h] at hc
  simp at hc
  exact hT (by rw [hc.2]; simp))
theorem Off.trans {ts ts' : List TypeId} {w w1 w2 : World} (h1 : Off ts w w1) (h2 : Off ts' w1 w2) : Off (ts ++ ts') w w2 := fun b c T hc hT => by
  simp only [List.mem_append, not_or] at hT
  exact (h2 b c T ((h1 b c T hc hT.1).trans hc) hT.2).trans (h1 b c T hc hT.1)
theorem Off.vk {ts : List TypeId} {w w' : World} (h : Off ts w w') {T : TypeId} {vb : Nat} {v : Value} {fold : Bool} {space : Int} {rest : List Value} (hk : Vk T w vb v fold space rest) (hT : T ∉ ts) : Vk T w' vb v fold space rest := (h vb _ T hk hT).trans hk
theorem Off.row {ts : List TypeId} {w w' : World} (h : Off ts w w') {base e size n : Nat} {v : Value} {xs : List Value} (hr : w.ownsRow base e size v n xs) (hT : e ∉ ts) : w'.ownsRow base e size v n xs := row_same hr (fun b hb => by
  obtain ⟨cur, hc⟩ := row_typed hr hb
  exact h b _ e hc hT)
theorem LawInv.off {ts : List TypeId} {w0 w w' : World} {bk kk : Nat} (h : LawInv w0 bk kk w) (ho : Off ts w w') (hb : Below w0.heap.size w0 w') (t1 : 30 ∉ ts) (t2 : 81 ∉ ts) (t3 : 22 ∉ ts) (t4 : 75 ∉ ts) : LawInv w0 bk kk w' := by
  obtain ⟨hbel, hlt, cv, cs, h1, h2, h3, h4⟩ := h
  exact ⟨hb, hlt, cv, cs, (ho bk _ 30 h1 t1).trans h1, ho.row h2 t2, h3, h4.same (fun q c hc => ho q _ 22 hc t3) (fun b u p xs hx => ho.row hx t4)⟩

/-- A list is taken. -/
theorem book_v {w0 wr w : World} {bk kk B n : Nat} {v : Value} {xs : List Value} (h0 : LawInv w0 bk kk wr) (hb : Below wr.heap.size wr w) (hB : wr.heap.size ≤ B) (hBw : B ≤ w.heap.size) (hk : kk ≤ 3000000) (hn : n ≤ 3000000) (hv : w.ownsRow B 75 5 v n xs) :
    Calls Tryz.prog 15 #[.pointer (some ⟨bk, 0, none⟩), v] w fun e w' => e = .returned (.tuple #[]) ∧ LawInv w0 bk (kk + 1) w' ∧ w.heap.size ≤ w'.heap.size ∧ Off [30, 81] wr w' := by
  obtain ⟨hbel0, hlt, cv, cs, i1, i2, i3, i4⟩ := h0
  have hsz := hb.size
  have hs00 := hbel0.size
  have hbel := hbel0.trans (hb.mono hs00)
  have h1 := (hb.block bk (Array.getElem?_eq_some_iff.1 i1).1).trans i1
  have h2 := own_below hb i2
  have hs0 := hbel.size
  have key : Calls Tryz.prog 15 #[.pointer (some ⟨bk, 0, none⟩), v] w fun e w' => e = .returned (.tuple #[]) ∧ Tooken B w0.heap.size bk kk n v cv (.slice none 0 0) (.slice none 0 0) cs w w' := by
    rcases hv.2 with ⟨rfl, rfl⟩ | ⟨g, cap, cur, rfl, hrest⟩
    · exact bookEntry_nil bk B w0.heap.size kk cv _ _ cs w hk hBw hs0 h1 h2
    · exact bookEntry_some bk B w0.heap.size kk n g cap xs cv _ _ cs w hk hn hBw hs0 h1 h2 hv
  refine key.mono ?_
  rintro e w' ⟨rfl, ⟨cv', q, t1, t2, t3, t4⟩, told, tos, ttp, tout, tsz⟩
  refine ⟨rfl, ?_, tsz, ?_⟩
  rotate_left
  · intro b c T hc hT
    simp only [List.mem_cons, List.not_mem_nil, or_false, not_or] at hT
    refine (told b (by have := (Array.getElem?_eq_some_iff.1 hc).1; omega) (fun e => ?_) (fun e => ?_) (fun e => ?_)).trans (hb.block b (Array.getElem?_eq_some_iff.1 hc).1)
    · rw [e, i1] at hc
      simp at hc
      exact hT.1 hc.2.symm
    · have := (hv.lt b e).1
      have := (Array.getElem?_eq_some_iff.1 hc).1
      omega
    · exact row_far i2 hc (fun e => hT.2 e.symm) e
  have hvB : ∀ b, v.ownBlock = some b → B ≤ b := fun b e => (hv.lt b e).1
  have hcB : ∀ b, cv.ownBlock = some b → w0.heap.size ≤ b := fun b e => (h2.lt b e).1
  have hbel2 : Below w0.heap.size w0 w' := by
    refine ⟨tos.trans hbel.os, ttp.trans hbel.tape, tout.trans hbel.output, by omega, fun b hb0 => ?_⟩
    refine (told b (by omega) (by omega) (fun e => ?_) (fun e => ?_)).trans (hbel.block b hb0)
    · have := hvB b e; omega
    · have := hcB b e; omega
  have oldB : ∀ b, b < wr.heap.size → b ≠ bk → cv.ownBlock ≠ some b → w'.heap[b]? = wr.heap[b]? := fun b hb0 hne hc =>
    (told b (by omega) hne (fun e => by have := hvB b e; omega) hc).trans (hb.block b hb0)
  have hQ : Qs w' cs := by
    refine i4.same (fun q c hc => ?_) (fun b u p xs hx => ?_)
    · refine oldB q (Array.getElem?_eq_some_iff.1 hc).1 (fun e => ?_) (row_far i2 hc (by decide))
      rw [e, i1] at hc
      simp at hc
    · refine row_same hx (fun b' e => oldB b' (hx.lt b' e).2 (fun e2 => row_far hx i1 (by decide) (by rw [e, e2])) (fun e2 => ?_))
      rcases row_apart hx i2 (by decide) with h | h
      · rw [e] at h; cases h
      · exact h (by rw [e, e2])
  refine ⟨hbel2, hlt, cv', cs ++ [.slice (some ⟨q, 0, none⟩) 4 4], t1, t4, by simp [i3], fun i hi => ?_⟩
  by_cases he : i < cs.length
  · obtain ⟨q', n', base', vl', e, hQ', hn'⟩ := hQ i he
    exact ⟨q', n', base', vl', by rw [List.getElem_append_left he]; exact e, hQ', hn'⟩
  · have hi' : i = kk := by simp at hi; omega
    subst hi'
    exact ⟨q, n, B, v, by rw [List.getElem_append_right (by omega)]; simp [i3], t3, hn⟩

/-- A volume of the program and the document's beside it. -/
structure VolD where
  xb : Nat
  yb : Nat
  xv : Value
  yv : Value
  fold : Bool
  space : Int
  jn : ByteArray
  L : List EntD
def VolD.upd (d : VolD) (v1 v2 : Value) (M : List EntD) : VolD := { d with xv := v1, yv := v2, L := M }
structure VolS (w0 w : World) (d : VolD) : Prop where
  xk : Vk 92 w d.xb d.xv d.fold d.space [.string d.jn]
  yk : Vk 65 w d.yb d.yv d.fold d.space []
  xge : w0.heap.size ≤ d.xb
  yge : w0.heap.size ≤ d.yb
  xr : w.ownsRow w0.heap.size 75 5 d.xv d.L.length (flatE d.L)
  yr : RowZ w0 d.yv d.L ∨ w.ownsRow w0.heap.size 75 5 d.yv d.L.length (flatE d.L)
  ok : VolOk d.fold d.L
  s0 : 0 ≤ d.space
  s1 : d.space ≤ 100000
theorem VolS.off {ts : List TypeId} {w0 w w' : World} {d : VolD} (h : VolS w0 w d) (ho : Off ts w w') (t1 : 92 ∉ ts) (t2 : 65 ∉ ts) (t3 : 75 ∉ ts) : VolS w0 w' d :=
  ⟨ho.vk h.xk t1, ho.vk h.yk t2, h.xge, h.yge, ho.row h.xr t3, h.yr.imp id (fun hr => ho.row hr t3), h.ok, h.s0, h.s1⟩
structure Vols (w0 w : World) (ds : List VolD) : Prop where
  bel : Below w0.heap.size w0 w
  each : ∀ d ∈ ds, VolS w0 w d
  apart : ds.Pairwise fun a b => a.xb ≠ b.xb ∧ a.yb ≠ b.yb
theorem Vols.off {ts : List TypeId} {w0 w w' : World} {ds : List VolD} (h : Vols w0 w ds) (ho : Off ts w w') (hb : Below w0.heap.size w0 w') (t1 : 92 ∉ ts) (t2 : 65 ∉ ts) (t3 : 75 ∉ ts) : Vols w0 w' ds :=
  ⟨hb, fun d hd => (h.each d hd).off ho t1 t2 t3, h.apart⟩
theorem Vols.below {w0 w w' : World} {ds : List VolD} (h : Vols w0 w ds) (hb : Below w.heap.size w w') : Vols w0 w' ds :=
  h.off (ts := []) (Off.of_below hb) (h.bel.trans (hb.mono h.bel.size)) (by simp) (by simp) (by simp)
theorem Vols.nil {w0 w : World} (h : Below w0.heap.size w0 w) : Vols w0 w [] := ⟨h, fun d hd => by simp at hd, List.Pairwise.nil⟩
theorem Vols.add {w0 w : World} {ds : List VolD} {d : VolD} (h : Vols w0 w ds) (hd : VolS w0 w d) (hn : ∀ e ∈ ds, e.xb ≠ d.xb ∧ e.yb ≠ d.yb) : Vols w0 w (ds ++ [d]) := by
  refine ⟨h.bel, fun e he => ?_, ?_⟩
  · simp only [List.mem_append, List.mem_singleton] at he
    rcases he with he | rfl
    · exact h.each e he
    · exact hd
  · rw [List.pairwise_append]
    exact ⟨h.apart, List.pairwise_singleton _ _, fun a ha b hb => by simp at hb; subst hb; exact hn a ha⟩
theorem VolS.vy {w0 w : World} {d : VolD} (h : VolS w0 w d) (hb : Below w0.heap.size w0 w) : RowZ w d.yv d.L := h.yr.elim (fun hr => hr.below hb (Nat.le_refl _)) (fun hr => .inl (RowAt.ofOwn hr))

/-- Both were changed. -/
theorem Vols.did {w0 w w1 w2 : World} {ds : List VolD} (h : Vols w0 w ds) {k : Nat} (hk : k < ds.length) {M : List EntD} {v1 v2 : Value} (hx : Vk 92 w1 ds[k].xb v1 ds[k].fold ds[k].space [.string ds[k].jn]) (ho1 : w1.ownsRow w.heap.size 75 5 v1 M.length (flatE M)) (g1 : w.grownBy w1 (some ds[k].xb)) (hy : Vk 65 w2 ds[k].yb v2 ds[k].fold ds[k].space []) (ho2 : w2.ownsRow w1.heap.size 75 5 v2 M.length (flatE M)) (g2 : w1.grownBy w2 (some ds[k].yb)) (KM : VolOk ds[k].fold M) :
    Vols w0 w2 (ds.set k (ds[k].upd v1 v2 M)) ∧ Off [92, 65] w w2 := by
  have hd := h.each _ (List.getElem_mem hk)
  have o1 := Off.of_vk hd.xk g1
  have hy1 := o1.vk hd.yk (by decide)
  have o2 := Off.of_vk hy1 g2
  have b1 : Below w0.heap.size w0 w1 := h.bel.grown g1 h.bel.size (fun q hq => by cases hq; exact hd.xge)
  have b2 : Below w0.heap.size w0 w2 := b1.grown g2 b1.size (fun q hq => by cases hq; exact hd.yge)
  have hx2 := o2.vk hx (by decide)
  refine ⟨⟨b2, fun e he => ?_, ?_⟩, o1.trans o2⟩
  · obtain ⟨i, hi, rfl⟩ := List.mem_iff_getElem.1 he
    have hi' : i < ds.length := by simpa using hi
    by_cases hik : k = i
    · subst hik
      rw [List.getElem_set_self]
      exact ⟨hx2, hy, hd.xge, hd.yge, o2.row (own_mono ho1 h.bel.size) (by decide), .inr (own_mono ho2 b1.size), KM, hd.s0, hd.s1⟩
    · rw [List.getElem_set_ne hik]
      have hi2 := h.each _ (List.getElem_mem hi')
      have hne : ds[i].xb ≠ ds[k].xb ∧ ds[i].yb ≠ ds[k].yb := by
        have hp := List.pairwise_iff_getElem.1 h.apart
        rcases Nat.lt_or_gt_of_ne hik with hlt | hlt
        · have := hp k i hk hi' hlt
          exact ⟨fun e => this.1 e.symm, fun e => this.2 e.symm⟩
        · exact hp i k hi' hk hlt
      have x1 : Vk 92 w1 ds[i].xb ds[i].xv ds[i].fold ds[i].space [.string ds[i].jn] := (g1.block _ hi2.xk.lt (fun e => hne.1 (by simpa using e))).trans hi2.xk
      have y1 := o1.vk hi2.yk (by decide)
      have y2 : Vk 65 w2 ds[i].yb ds[i].yv ds[i].fold ds[i].space [] := (g2.block _ y1.lt (fun e => hne.2 (by simpa using e))).trans y1
      exact ⟨o2.vk x1 (by decide), y2, hi2.xge, hi2.yge, o2.row (o1.row hi2.xr (by decide)) (by decide), hi2.yr.imp id (fun hr => o2.row (o1.row hr (by decide)) (by decide)), hi2.ok, hi2.s0, hi2.s1⟩
  · rw [List.pairwise_iff_getElem]
    intro i j hi hj hij
    have hp := List.pairwise_iff_getElem.1 h.apart i j (by simpa using hi) (by simpa using hj) hij
    have key : ∀ (i : Nat) (hi : i < (ds.set k (ds[k].upd v1 v2 M)).length), (ds.set k (ds[k].upd v1 v2 M))[i].xb = (ds[i]'(by simpa using hi)).xb ∧ (ds.set k (ds[k].upd v1 v2 M))[i].yb = (ds[i]'(by simpa using hi)).yb := by
      intro i hi
      by_cases hik : k = i
      · subst hik
        rw [List.getElem_set_self]
        exact ⟨rfl, rfl⟩
      · rw [List.getElem_set_ne hik]
        exact ⟨rfl, rfl⟩
    rw [(key i hi).1, (key j hj).1, (key i hi).2, (key j hj).2]
    exact hp
def xP (d : VolD) : Value := .pointer (some ⟨d.xb, 0, none⟩)
def yP (d : VolD) : Value := .pointer (some ⟨d.yb, 0, none⟩)
def jP (d : VolD) : Value := .string d.jn
theorem map_set_same {f : VolD → Value} (ds : List VolD) (k : Nat) (hk : k < ds.length) (d : VolD) (h : f d = f ds[k]) : (ds.set k d).map f = ds.map f := by
  rw [List.map_set, h]
  have : f ds[k] = (ds.map f)[k]'(by simpa using hk) := by simp
  rw [this, List.set_getElem_self]

/-- The three rows that name the volumes. -/
structure Rows3 (w0 w : World) (ds : List VolD) (xv yv jv : Value) : Prop where
  x : w.ownsRow w0.heap.size 50 1 xv ds.length (ds.map xP)
  y : w.ownsRow w0.heap.size 53 1 yv ds.length (ds.map yP)
  j : w.ownsRow w0.heap.size 9 1 jv ds.length (ds.map jP)
theorem Rows3.off {ts : List TypeId} {w0 w w' : World} {ds : List VolD} {xv yv jv : Value} (h : Rows3 w0 w ds xv yv jv) (ho : Off ts w w') (t1 : 50 ∉ ts) (t2 : 53 ∉ ts) (t3 : 9 ∉ ts) : Rows3 w0 w' ds xv yv jv := ⟨ho.row h.x t1, ho.row h.y t2, ho.row h.j t3⟩
theorem Rows3.below {w0 w w' : World} {ds : List VolD} {xv yv jv : Value} (h : Rows3 w0 w ds xv yv jv) (hb : Below w.heap.size w w') : Rows3 w0 w' ds xv yv jv := h.off (ts := []) (Off.of_below hb) (by simp) (by simp) (by simp)
theorem Rows3.set {w0 w : World} {ds : List VolD} {xv yv jv : Value} (h : Rows3 w0 w ds xv yv jv) {k : Nat} (hk : k < ds.length) (v1 v2 : Value) (M : List EntD) : Rows3 w0 w (ds.set k (ds[k].upd v1 v2 M)) xv yv jv := by
  refine ⟨?_, ?_, ?_⟩
  · rw [map_set_same ds k hk (ds[k].upd v1 v2 M) (rfl : xP (ds[k].upd v1 v2 M) = xP ds[k]), List.length_set]; exact h.x
  · rw [map_set_same ds k hk (ds[k].upd v1 v2 M) (rfl : yP (ds[k].upd v1 v2 M) = yP ds[k]), List.length_set]; exact h.y
  · rw [map_set_same ds k hk (ds[k].upd v1 v2 M) (rfl : jP (ds[k].upd v1 v2 M) = jP ds[k]), List.length_set]; exact h.j
end Go.Proofs.YtehkdjdflgknnaaGreatDoor
