import Derived.Test.YtapldonpflgnfaaDoorMAG
import Derived.Test.YtapldonpflgnfaaDoorMAM
import Derived.Test.YtapldonpflgnfaaDoorMAN
import Derived.Test.YtapldonpflgnfaaDoorMAO
import Derived.Test.YtapldonpflgnfaaDoorMAS
import Derived.Deep.Upon
import Derived.Test.YtapldonpflgnfaaDoorRows
import Derived.KernelRfl
import Derived.Laws.StructEq
import Derived.Laws.Small
namespace Go.Proofs.YtapldonpflgnfaaDoor
set_option linter.unusedVariables false
set_option linter.unusedSimpArgs false
section
set_option autoImplicit false
open Go.RowKit
abbrev Gr := Option (Nat × Nat × List Value)
def gA (o : Gr) : Option Addr := match o with | none => none | some (b, _, _) => some ⟨b, 0, none⟩
def gC (o : Gr) : Nat := match o with | none => 0 | some (_, c, _) => c
def gt (o : Gr) (cs : List Value) : Boxes := match o with | none => [] | some (b, _, sp) => [(b, .cells (cs ++ sp))]
structure gok (o : Gr) (n z : Nat) (cs : List Value) : Prop where
  len : cs.length = n * z
  nil : o = none → n = 0
  own : ∀ b c sp, o = some (b, c, sp) → n ≤ c ∧ c ≤ 9223372036854775807 ∧ sp.length = (c - n) * z
theorem gok.none (z : Nat) : gok none 0 z [] := ⟨by simp, fun _ => rfl, fun _ _ _ h => by cases h⟩
theorem gok.some {o : Gr} {n z : Nat} {cs : List Value} (h : gok o n z cs) (h0 : 0 < n) : ∃ b c sp, o = some (b, c, sp) := by
  rcases o with _ | ⟨b, c, sp⟩
  · have := h.nil rfl; omega
  · exact ⟨b, c, sp, rfl⟩
theorem gok.le {o : Gr} {n z : Nat} {cs : List Value} (h : gok o n z cs) : n ≤ gC o ∧ gC o ≤ 9223372036854775807 := by
  rcases o with _ | ⟨b, c, sp⟩
  · have := h.nil rfl; exact ⟨by simp [gC, this], by simp [gC]⟩
  · have := h.own b c sp rfl; exact ⟨this.1, this.2.1⟩
inductive Tl : Boxes → Boxes → Boxes → Prop
  | z {G : Boxes} : Tl [] G G
  | s {x : Nat × Cont} {L1 G L : Boxes} (h : Tl L1 G L) : Tl (x :: L1) G (x :: L)
theorem Tl.eq {L1 G L : Boxes} (h : Tl L1 G L) : L = L1 ++ G := by
  induction h with
  | z => rfl
  | s _ ih => rw [ih]; rfl
theorem apart_pair {L : Boxes} : (∀ (i j b : Nat) (cs cs' : Cont), L[i]? = some (b, cs) → L[j]? = some (b, cs') → i = j) ↔ L.Pairwise (fun x y => x.1 ≠ y.1) := by
  rw [List.pairwise_iff_getElem]
  constructor
  · intro h i j hi hj hij he
    have h1 : L[i]? = some (L[i].1, L[i].2) := List.getElem?_eq_getElem hi
    have h2 : L[j]? = some (L[i].1, L[j].2) := by rw [List.getElem?_eq_getElem hj, he]
    have := h i j _ _ _ h1 h2
    omega
  · intro h i j b cs cs' hi hj
    obtain ⟨li, ei⟩ := List.getElem?_eq_some_iff.1 hi
    obtain ⟨lj, ej⟩ := List.getElem?_eq_some_iff.1 hj
    rcases Nat.lt_trichotomy i j with g | g | g
    · exact absurd (by rw [ei, ej]) (h i j li lj g)
    · exact g
    · exact absurd (by rw [ei, ej]) (h j i lj li g)
theorem Sta.perm {E : Cfg} {U : Snaps} {L L' : Boxes} {w : World} (h : Sta E U L w) (hp : L.Perm L') : Sta E U L' w := by
  have mem : ∀ (i b : Nat) (cs : Cont), L'[i]? = some (b, cs) → ∃ j, L[j]? = some (b, cs) := fun i b cs hi => by
    have := hp.mem_iff.2 (List.mem_of_getElem? hi)
    exact List.getElem?_of_mem this
  refine ⟨h.chg, fun i b cs hi => ?_, ?_, fun lo u hu => ?_⟩
  · obtain ⟨j, hj⟩ := mem i b cs hi; exact h.box j b cs hj
  · have h1 := apart_pair.1 h.apart
    exact apart_pair.2 ((hp.pairwise_iff (fun {x y} hxy => Ne.symm hxy)).1 h1)
  · obtain ⟨a, b, c, d, e, f⟩ := h.snap lo u hu
    exact ⟨a, b, c, d, e, fun i b cs hi => by obtain ⟨j, hj⟩ := mem i b cs hi; exact f j b cs hj⟩
section
variable {P : Program} {e0 : Cfg} {U : Snaps} {l : Slots} {L : Boxes} {ops : Array Oper} {Q : Exit → Act → World → Prop} {rest : List Oper} {d : Nat} {v : Value}
variable {ty : TypeId} {pos : String} {af : Array Edge} {g : Option (Nat × Bool)} {dd : Option Nat}
structure Sor (e0 : Cfg) (U : Snaps) (L : Boxes) (z : Nat) (y : Value) (m : Nat) (vs : List Value) : Prop where
  len : vs.length = m * z
  one : vs.all (fun u => u.oneCell') = true
  val : ∃ (yA : Option Addr) (c : Nat), y = .slice yA m c ∧ ∀ w, Sta e0 U L w → 0 < m → ∃ A, yA = some A ∧ ∀ j u, vs[j]? = some u → w.cell? (A.add j) = some u
theorem Sor.box {z m c j bs : Nat} {vs : List Value} (hj : L[j]? = some (bs, .cells vs)) (hl : vs.length = m * z) (h1 : vs.all (fun u => u.oneCell') = true) : Sor e0 U L z (.slice (some ⟨bs, 0, none⟩) m c) m vs :=
  ⟨hl, h1, _, _, rfl, fun w hs _ => ⟨_, rfl, fun i u hu => by rw [addr_add, Nat.zero_add]; exact hs.cell hj hu⟩⟩
theorem Sor.list {α : Type} {z m c : Nat} {A : Option Addr} {enc : α → List Value} {zs : List α} (hlen : ∀ x, (enc x).length = z) (h1 : ∀ x, (enc x).all (fun u => u.oneCell') = true) (hz : zs.length = m) (h : ∀ w, Sta e0 U L w → IsT z enc w A m zs) :
    Sor e0 U L z (.slice A m c) m (zs.flatMap enc) := by
  refine ⟨?_, ?_, _, _, rfl, fun w hs h0 => ?_⟩
  · subst hz
    clear h
    induction zs with
    | nil => simp
    | cons x r ih => rw [List.flatMap_cons, List.length_append, hlen, ih, List.length_cons, Nat.add_mul]; omega
  · clear h hz
    induction zs with
    | nil => rfl
    | cons x r ih => rw [List.flatMap_cons, List.all_append, h1, ih]; rfl
  · obtain ⟨b, o, e, h2, h3⟩ := (h w hs).2 h0
    refine ⟨_, e, fun j u hu => ?_⟩
    rw [addr_add]
    have key : ∀ (ys : List α) (k j : Nat) (u : Value), (ys.flatMap enc)[j]? = some u → (∀ i x, ys[i]? = some x → zs[k + i]? = some x) → w.cell? ⟨b, o + (k * z + j), none⟩ = some u := by
      intro ys
      induction ys with
      | nil => intro k j u hu _; simp at hu
      | cons y r ih =>
        intro k j u hu hk
        rw [List.flatMap_cons] at hu
        rcases Nat.lt_or_ge j z with g | g
        · rw [List.getElem?_append_left (by rw [hlen]; exact g)] at hu
          have := h3 k y (hk 0 y rfl) j u hu
          rw [← Nat.add_assoc]; exact this
        · rw [List.getElem?_append_right (by rw [hlen]; exact g), hlen] at hu
          have := ih (k + 1) (j - z) u hu (fun i x hx => by rw [Nat.add_assoc, Nat.add_comm 1 i]; exact hk (i + 1) x hx)
          rw [Nat.add_mul] at this
          rw [show k * z + j = k * z + 1 * z + (j - z) by omega]; exact this
    have := key zs 0 j u hu (fun i x hx => by simpa using hx)
    simpa using this
theorem al_grow {t e z bytes n m : Nat} {zv : Value} {o : Gr} {cs vs : List Value} {L1 G : Boxes} {y : Value} {ox oy : Operand} (hx : E l ox = some (.slice (gA o) n (gC o))) (hy : E l oy = some y) (hT : Tl L1 (gt o cs ++ G) L) (hg : gok o n z cs) (hs : Sor e0 U L z y m vs)
    (hu : P.underlying t = some (.slice e)) (hinfo : (P.info? e).map (fun i => (i.zero, i.size, i.bytes)) = some (some zv, z, bytes)) (hzv : zv.cells.size = z) (hm : n + m ≤ 1000000) (hb : bytes ≤ 10000)
    (hn : Nat.blt d e0.n = true) (hw : want ops l g = some true)
    (k : ∀ o', gok o' (n + m) z (cs ++ vs) → ∃ L', Tl L1 (gt o' (cs ++ vs) ++ G) L' ∧ AL P ops Q e0 U ((d, .slice (gA o') (n + m) (gC o')) :: l) L' rest) :
    AL P ops Q e0 U l L (⟨some d, .call ⟨.builtin .append, #[ox, oy], #[t, t]⟩, ty, pos, af, g⟩ :: rest) :=
  al_run2 (K := True) hw rfl hn (fun a w hf hst => by
    obtain ⟨hl, h1, yA, c, rfl, hc⟩ := hs
    rcases Nat.eq_zero_or_pos m with h0 | h0
    · subst h0
      have hv : vs = [] := List.length_eq_zero_iff.1 (by simpa using hl)
      subst hv
      obtain ⟨ti, hti, hz, rfl, rfl⟩ := info_split hinfo
      have hsrc : Go.Src P ti.size t (.slice yA 0 c) 0 [] w := by
        cases yA with
        | none => exact Go.Src.ofNil w hu c
        | some A => exact Go.Src.ofSlice w hu A 0 c [] (by simp) (fun j u h => by simp at h) (fun u h => by cases h)
      have hr := run_append_nothing (P := P) w t t ty e ti hu hti (gA o) n (gC o) hg.le.1 _ hsrc
      obtain ⟨L', hL', hk⟩ := k o (by simpa using hg)
      have e1 : L' = L := by rw [hL'.eq, hT.eq]; simp
      exact ⟨_, w, U, L', ex_append (hf.ev hx) (hf.ev hy) hr, by rw [e1]; exact hst, hk⟩
    · obtain ⟨A, rfl, hA⟩ := hc w hst h0
      rcases o with _ | ⟨b, cap, sp⟩
      · have hn0 := hg.nil rfl
        subst hn0
        have hcs : cs = [] := List.length_eq_zero_iff.1 (by simpa using hg.len)
        subst hcs
        have eL : L = L1 ++ G := by rw [hT.eq]; simp [gt]
        obtain ⟨b', cap', sp', w', hr, h2, h3, h4, hst'⟩ := run_appendNil (A := A) (c := c) ty hu hinfo hzv hst hl hA h0 (by omega) hb
        obtain ⟨L', hL', hk⟩ := k (some (b', cap', sp')) ⟨by simpa using hl, fun e => by (cases e), fun b c sp e => by cases e; rw [Nat.zero_add]; exact ⟨h2, h3, h4⟩⟩
        have e1 : ((0 : Nat) + m) = m := Nat.zero_add m
        rw [e1] at hk
        refine ⟨_, w', U, L', ex_append (hf.ev hx) (hf.ev hy) hr, ?_, hk⟩
        rw [hL'.eq]
        refine hst'.perm ?_
        rw [eL]
        show ((b', Cont.cells (vs ++ sp')) :: (L1 ++ G)).Perm (L1 ++ ((b', Cont.cells ([] ++ vs ++ sp')) :: G))
        rw [List.nil_append]
        exact List.perm_middle.symm
      · obtain ⟨g1, g2, g3⟩ := hg.own b cap sp rfl
        have hL := hT.eq
        have hi : L[L1.length]? = some (b, .cells (cs ++ sp)) := by rw [hL]; simp [gt]
        obtain ⟨b', cap', sp', w', hr, h2, h3, h4, hst'⟩ := run_appendBox (A := A) (c := c) ty hu hinfo hzv hst hi hg.len g3 g1 g2 hl hA (by simpa using h1) hm hb
        obtain ⟨L', hL', hk⟩ := k (some (b', cap', sp')) ⟨by rw [List.length_append, hg.len, hl, Nat.add_mul], fun e => by (cases e), fun b c sp e => by cases e; exact ⟨h2, h3, h4⟩⟩
        refine ⟨_, w', U, L', ex_append (hf.ev hx) (hf.ev hy) hr, ?_, hk⟩
        rw [hL'.eq]
        have e2 : L.set L1.length (b', .cells ((cs ++ vs) ++ sp')) = L1 ++ (gt (some (b', cap', sp')) (cs ++ vs) ++ G) := by
          rw [hL, List.set_append_right _ _ (Nat.le_refl _)]; simp [gt]
        rw [← e2]; exact hst')
end
structure NewT {α : Type} (z : Nat) (enc : α → List Value) (B : Nat) (w : World) (A : Option Addr) (n c : Nat) (zs : List α) : Prop where
  isT : IsT z enc w A n zs
  new : ∀ b off, A = some ⟨b, off, none⟩ → B ≤ b
  le : n ≤ c ∧ c ≤ 9223372036854775807
theorem Sta.grown {α : Type} {z n N : Nat} {D : List Deferred} {enc : α → List Value} (hlen : ∀ x, (enc x).length = z) {w0 w : World} {U : Snaps} {L : Boxes} {o : Gr} {cs : List Value} {zs : List α} (h : Sta ⟨N, D, w0, []⟩ U L w) (hT : ∀ x ∈ gt o cs, x ∈ L) (hg : gok o n z cs)
    (hz : zs.flatMap enc = cs) (hn : zs.length = n) : NewT z enc w0.heap.size w (gA o) n (gC o) zs := by
  refine ⟨?_, fun b off e => ?_, hg.le⟩
  · rcases o with _ | ⟨b, c, sp⟩
    · have := hg.nil rfl
      exact ⟨hn, fun h0 => by omega⟩
    · obtain ⟨i, hi⟩ := List.getElem?_of_mem (hT (b, .cells (cs ++ sp)) (by simp [gt]))
      exact isT_box hlen (h.at _ hi) hz hn
  · rcases o with _ | ⟨b', c, sp⟩
    · cases e
    · obtain ⟨i, hi⟩ := List.getElem?_of_mem (hT (b', .cells (cs ++ sp)) (by simp [gt]))
      have := (h.box _ _ _ hi).1
      cases e
      rcases this with g | g
      · exact g
      · cases g
theorem flat_int : ∀ l : List Int, l.flatMap intCells = l.map (Value.int .i64)
  | [] => rfl
  | x :: l => by rw [List.flatMap_cons, flat_int l]; rfl
theorem Sta.newT {α : Type} {z n c : Nat} {enc : α → List Value} {E : Cfg} {U : Snaps} {L : Boxes} {w u : World} {lo : Nat} {A : Option Addr} {zs : List α} (h : Sta E U L w) (hu : (lo, u) ∈ U) (hN : NewT z enc lo u A n c zs) : IsT z enc w A n zs :=
  h.isT hu hN.isT fun b o e => Or.inl (hN.new b o e)
end
section
set_option autoImplicit false
open Go.RowKit
section
variable {P : Program} {e0 : Cfg} {U : Snaps} {l : Slots} {L : Boxes} {ops : Array Oper} {Q : Exit → Act → World → Prop} {rest : List Oper} {d : Nat} {v : Value}
variable {ty : TypeId} {pos : String} {af : Array Edge} {g : Option (Nat × Bool)} {dd : Option Nat}
theorem IsT.piece {α : Type} {z : Nat} {enc : α → List Value} {w : World} {len b o : Nat} {zs : List α} (h : IsT z enc w (some ⟨b, o, none⟩) len zs) {lo n : Nat} (hl : lo + n ≤ len) : IsT z enc w (some ⟨b, o + lo * z, none⟩) n ((zs.drop lo).take n) := by
  refine ⟨by rw [List.length_take, List.length_drop, h.1]; omega, fun h0 => ?_⟩
  obtain ⟨b', o', e, h1, h2⟩ := h.2 (by omega)
  cases e
  refine ⟨_, _, rfl, h1, fun j x hx i v hv => ?_⟩
  have hj : j < n := by
    have := (List.getElem?_eq_some_iff.1 hx).1
    rw [List.length_take] at this; omega
  rw [List.getElem?_take_of_lt hj, List.getElem?_drop] at hx
  have := h2 (lo + j) x hx i v hv
  rw [Nat.add_mul] at this
  rw [← this]; congr 2; omega
end
end
section
open Go.RowKit
def zeros (n : Nat) : List Value := List.replicate n (.int .i64 0)
end
section
open Go.RowKit
end
section
open Go.RowKit
end
section
open Go.RowKit Go.Shelf
end
section
open Go.RowKit Go.Shelf
end
section
set_option autoImplicit false
open Go.RowKit
def rowK (g : GridD) (n i : Nat) : List Int := (List.range n).map fun (j : Nat) => infl (cellR g i) (cellZ g i) (cellR g j) (cellZ g j)
theorem rowK_length (g : GridD) (n i : Nat) : (rowK g n i).length = n := by simp [rowK]
def RowsIn (g : GridD) (n : Nat) (G : Boxes) (rows : List (Option Addr × Nat)) : Prop := ∀ (i : Nat) r, rows[i]? = some r → ∃ b sp, r.1 = some ⟨b, 0, none⟩ ∧ (b, Cont.cells ((rowK g n i).map (Value.int .i64) ++ sp)) ∈ G ∧ n ≤ r.2 ∧ r.2 ≤ 9223372036854775807
theorem RowsIn.snoc {g : GridD} {n : Nat} {G : Boxes} {rows : List (Option Addr × Nat)} (h : RowsIn g n G rows) {o : Gr} {cs : List Value} (hg : gok o n 1 cs) (hn : 0 < n) (hcs : cs = (rowK g n rows.length).map (Value.int .i64)) : RowsIn g n (gt o cs ++ G) (rows ++ [(gA o, gC o)]) := by
  intro i r hr
  rcases Nat.lt_or_ge i rows.length with g1 | g1
  · rw [List.getElem?_append_left g1] at hr
    obtain ⟨b, sp, e, hm, h1⟩ := h i r hr
    exact ⟨b, sp, e, List.mem_append_right _ hm, h1⟩
  · rw [List.getElem?_append_right g1] at hr
    have hi : i - rows.length = 0 := by
      have := (List.getElem?_eq_some_iff.1 hr).1
      simp only [List.length_cons, List.length_nil] at this; omega
    rw [hi] at hr
    obtain rfl : (gA o, gC o) = r := by simpa using hr
    obtain ⟨b, c, sp, rfl⟩ := hg.some hn
    obtain ⟨h1, h2, h3⟩ := hg.own b c sp rfl
    refine ⟨b, sp, rfl, List.mem_append_left _ ?_, h1, h2⟩
    rw [show i = rows.length by omega, ← hcs]; simp [gt]
theorem Sta.rowK {N : Nat} {D : List Deferred} {w0 w : World} {U : Snaps} {L G : Boxes} {g : GridD} {n : Nat} {rows : List (Option Addr × Nat)} (h : Sta ⟨N, D, w0, []⟩ U L w) (hG : ∀ x ∈ G, x ∈ L) (hr : RowsIn g n G rows) : ∀ (i : Nat) r, rows[i]? = some r → NewT 1 intCells w0.heap.size w r.1 n r.2 (rowK g n i) := by
  intro i r hi
  obtain ⟨b, sp, e, hm, h1, h2⟩ := hr i r hi
  obtain ⟨j, hj⟩ := List.getElem?_of_mem (hG _ hm)
  refine ⟨?_, fun b' off e' => ?_, h1, h2⟩
  · rw [e]; exact isT_box (n := 1) (enc := intCells) (fun _ => rfl) (h.at j hj) (flat_int _) (rowK_length _ _ _)
  · rw [e] at e'; cases e'
    rcases (h.box j _ _ hj).1 with g1 | g1
    · exact g1
    · cases g1
end
section
set_option autoImplicit false
open Go.RowKit
section
variable {P : Program} {e0 : Cfg} {U : Snaps} {l : Slots} {L : Boxes} {ops : Array Oper} {Q : Exit → Act → World → Prop} {rest : List Oper} {d : Nat} {v : Value}
variable {ty : TypeId} {pos : String} {af : Array Edge} {g : Option (Nat × Bool)} {dd : Option Nat}
theorem q_max {ox oy : Operand} {x y : Int} {ts : Array TypeId} (hx : E l ox = some (.int .i64 x)) (hy : E l oy = some (.int .i64 y)) : Q1 P e0 U l L ⟨dd, .call ⟨.builtin .max, #[ox, oy], ts⟩, ty, pos, af, g⟩ (.int .i64 (max x y)) := by
  intro a w hf hs
  have e : (if y > x then y else x) = max x y := by omega
  simp [execOp, resolve, invoke, hf.ev hx, hf.ev hy, builtin, run_max_int2, run_min_int2, Result.andThen, e]
theorem q_min {ox oy : Operand} {x y : Int} {ts : Array TypeId} (hx : E l ox = some (.int .i64 x)) (hy : E l oy = some (.int .i64 y)) : Q1 P e0 U l L ⟨dd, .call ⟨.builtin .min, #[ox, oy], ts⟩, ty, pos, af, g⟩ (.int .i64 (min x y)) := by
  intro a w hf hs
  have e : (if y < x then y else x) = min x y := by omega
  simp [execOp, resolve, invoke, hf.ev hx, hf.ev hy, builtin, run_max_int2, run_min_int2, Result.andThen, e]
end
theorem Tl.of {L1 G L : Boxes} (h : L = L1 ++ G) : Tl L1 G L := by
  subst h
  induction L1 with
  | nil => exact .z
  | cons x r ih => exact .s ih
section
variable {P : Program} {e0 : Cfg} {U : Snaps} {l : Slots} {L : Boxes} {ops : Array Oper} {Q : Exit → Act → World → Prop} {rest : List Oper} {d : Nat} {v : Value}
variable {ty : TypeId} {pos : String} {af : Array Edge} {g : Option (Nat × Bool)} {dd : Option Nat}
end
end
section
set_option autoImplicit false
open Go.RowKit
inductive Ins (x : Nat × Cont) : Boxes → Boxes → Prop
  | here {L : Boxes} : Ins x L (x :: L)
  | there {y : Nat × Cont} {L L' : Boxes} (h : Ins x L L') : Ins x (y :: L) (y :: L')
theorem Ins.perm {x : Nat × Cont} {L L' : Boxes} (h : Ins x L L') : L'.Perm (x :: L) := by
  induction h with
  | here => exact List.Perm.refl _
  | there h ih => exact (List.Perm.cons _ ih).trans (List.Perm.swap _ _ _)
inductive Pm : Boxes → Boxes → Prop
  | refl {L : Boxes} : Pm L L
  | cons {x : Nat × Cont} {M L L' : Boxes} (h : Ins x L L') (t : Pm M L) : Pm (x :: M) L'
theorem Pm.perm {M L : Boxes} (h : Pm M L) : L.Perm M := by
  induction h with
  | refl => exact List.Perm.refl _
  | cons h t ih => exact h.perm.trans (List.Perm.cons _ ih)
section
variable {P : Program} {e0 : Cfg} {U : Snaps} {l : Slots} {L : Boxes} {ops : Array Oper} {Q : Exit → Act → World → Prop} {U0 : Snaps} {L0 : Boxes} {last fuel : Nat} {listed : Array Bool}
end
end
end Go.Proofs.YtapldonpflgnfaaDoor
