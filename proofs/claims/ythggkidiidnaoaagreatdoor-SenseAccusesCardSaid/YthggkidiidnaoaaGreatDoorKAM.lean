import Derived.Test.YthggkidiidnaoaaGreatDoorKAH
import Derived.Test.YthggkidiidnaoaaGreatDoorKAJ
import Derived.Test.YthggkidiidnaoaaGreatDoorKAL
import Derived.Deep.Upon
import Derived.Deep.RegionHeld3
import Derived.Deep.DeepCutAuto
import Derived.Deep.QuietTactic
import Derived.BigQuiet
import Derived.IntWalk
import Derived.RangeFuncNested
import Derived.RangeFuncBound
import Derived.RangeFuncCalls
import Derived.RangeFuncLeaves
import Derived.Shelf.Abstract
import Derived.Shelf.RegionOpen
import Derived.WalkKit
import Derived.OwnWalkIn
import Derived.TacticsInMore
import Derived.LoopNIn
import Derived.LoopIn
import Derived.OrdersIn
import Derived.Laws.World
namespace Go.Proofs.YthggkidiidnaoaaGreatDoor
set_option linter.unusedVariables false
set_option linter.unusedSimpArgs false
section
set_option autoImplicit false
open Go.RowKit
abbrev Gr := Option (Nat × Nat × List Value)
def gA (o : Gr) : Option Addr := match o with | none => none | some (b, _, _) => some ⟨b, 0, none⟩
def gC (o : Gr) : Nat := match o with | none => 0 | some (_, c, _) => c
def gt (o : Gr) (cs : List Value) : Boxes := match o with | none => [] | some (b, _, sp) => [(b, .cells (cs ++ sp))]
structure gok (o : Gr) (n z : Nat) (cs : List Value) : Prop where
 len : cs.length = n * z
 nil : o = none → n = 0
 own : ∀ b c sp, o = some (b, c, sp) → n ≤ c ∧ c ≤ 9223372036854775807 ∧ sp.length = (c - n) * z
theorem gok.none (z : Nat) : gok none 0 z [] := ⟨by simp, fun _ => rfl, fun _ _ _ h => by cases h⟩
theorem gok.some {o : Gr} {n z : Nat} {cs : List Value} (h : gok o n z cs) (h0 : 0 < n) : ∃ b c sp, o = some (b, c, sp) := by
 rcases o with _ | ⟨b, c, sp⟩
 ·have := h.nil rfl; omega
 ·exact ⟨b, c, sp, rfl⟩
theorem gok.le {o : Gr} {n z : Nat} {cs : List Value} (h : gok o n z cs) : n ≤ gC o ∧ gC o ≤ 9223372036854775807 := by
 rcases o with _ | ⟨b, c, sp⟩
 ·have := h.nil rfl; exact ⟨by simp [gC, this], by simp [gC]⟩
 ·have := h.own b c sp rfl; exact ⟨this.1, this.2.1⟩
inductive Tl : Boxes → Boxes → Boxes → Prop
 | z {G : Boxes} : Tl [] G G
 | s {x : Nat × Cont} {L1 G L : Boxes} (h : Tl L1 G L) : Tl (x :: L1) G (x :: L)
theorem Tl.eq {L1 G L : Boxes} (h : Tl L1 G L) : L = L1 ++ G := by
 induction h with
 | z => rfl
 | s _ ih => rw [ih]; rfl
theorem apart_pair {L : Boxes} : (∀ (i j b : Nat) (cs cs' : Cont), L[i]? = some (b, cs) → L[j]? = some (b, cs') → i = j) ↔ L.Pairwise (fun x y => x.1 ≠ y.1) := by
 rw [List.pairwise_iff_getElem]
 constructor
 ·intro h i j hi hj hij he
  have h1 : L[i]? = some (L[i].1, L[i].2) := List.getElem?_eq_getElem hi
  have h2 : L[j]? = some (L[i].1, L[j].2) := by rw [List.getElem?_eq_getElem hj, he]
  have := h i j _ _ _ h1 h2
  omega
 ·intro h i j b cs cs' hi hj
  obtain ⟨li, ei⟩ := List.getElem?_eq_some_iff.1 hi
  obtain ⟨lj, ej⟩ := List.getElem?_eq_some_iff.1 hj
  rcases Nat.lt_trichotomy i j with g | g | g
  ·exact absurd (by rw [ei, ej]) (h i j li lj g)
  ·exact g
  ·exact absurd (by rw [ei, ej]) (h j i lj li g)
theorem Sta.perm {E : Cfg} {U : Snaps} {L L' : Boxes} {w : World} (h : Sta E U L w) (hp : L.Perm L') : Sta E U L' w := by
 have mem : ∀ (i b : Nat) (cs : Cont), L'[i]? = some (b, cs) → ∃ j, L[j]? = some (b, cs) := fun i b cs hi => by
  have := hp.mem_iff.2 (List.mem_of_getElem? hi)
  exact List.getElem?_of_mem this
 refine ⟨h.chg, fun i b cs hi => ?_, ?_, fun lo u hu => ?_⟩
 ·obtain ⟨j, hj⟩ := mem i b cs hi; exact h.box j b cs hj
 ·have h1 := apart_pair.1 h.apart
  exact apart_pair.2 ((hp.pairwise_iff (fun {x y} hxy => Ne.symm hxy)).1 h1)
 ·obtain ⟨a, b, c, d, e, f⟩ := h.snap lo u hu
  exact ⟨a, b, c, d, e, fun i b cs hi => by obtain ⟨j, hj⟩ := mem i b cs hi; exact f j b cs hj⟩
theorem Sta.front {E : Cfg} {U : Snaps} {L L1 G : Boxes} {w : World} (h : Sta E U L w) (hT : Tl L1 G L) : Sta E U L1 w := by
 have hL := hT.eq
 have up : ∀ (i b : Nat) (cs : Cont), L1[i]? = some (b, cs) → L[i]? = some (b, cs) := fun i b cs hi => by
  rw [hL, List.getElem?_append_left (List.getElem?_eq_some_iff.1 hi).1]; exact hi
 exact ⟨h.chg, fun i b cs hi => h.box i b cs (up i b cs hi), fun i j b cs cs' hi hj => h.apart i j b cs cs' (up i b cs hi) (up j b cs' hj), fun lo u hu => by
  obtain ⟨a, b, c, d, e, f⟩ := h.snap lo u hu
  exact ⟨a, b, c, d, e, fun i b cs hi => f i b cs (up i b cs hi)⟩⟩
theorem ac_drawF {P : Program} {e0 : Cfg} {U : Snaps} {l : Slots} {L L1 G : Boxes} {Q : Exit → Act → World → Prop} {id : Nat} {os : List Oper} (last : Nat) (hT : Tl L1 G L) (hm : P.follows .mixedOrders = true) (hok : lastOk os.toArray last = true) (k : AH P os.toArray Q U L1 last os.toArray.size (Array.replicate os.toArray.size false) e0 U l L) : AC P e0 U l L (.region id os.toArray true) Q :=
 fun a w hf hs => wp_region_any hm (wpAny_of_G _ _ _ _ (k hok (DrawnTo.start _ _) a _ hf hs.drew))
section
variable {P : Program} {e0 : Cfg} {U : Snaps} {l : Slots} {L : Boxes} {ops : Array Oper} {Q : Exit → Act → World → Prop} {rest : List Oper} {d : Nat} {v : Value}
variable {ty : TypeId} {pos : String} {af : Array Edge} {g : Option (Nat × Bool)} {dd : Option Nat}
structure Sor (e0 : Cfg) (U : Snaps) (L : Boxes) (z : Nat) (y : Value) (m : Nat) (vs : List Value) : Prop where
 len : vs.length = m * z
 one : vs.all (fun u => u.oneCell') = true
 val : ∃ (yA : Option Addr) (c : Nat), y = .slice yA m c ∧ ∀ w, Sta e0 U L w → 0 < m → ∃ A, yA = some A ∧ ∀ j u, vs[j]? = some u → w.cell? (A.add j) = some u
theorem Sor.box {z m c j bs : Nat} {vs : List Value} (hj : L[j]? = some (bs, .cells vs)) (hl : vs.length = m * z) (h1 : vs.all (fun u => u.oneCell') = true) : Sor e0 U L z (.slice (some ⟨bs, 0, none⟩) m c) m vs :=
 ⟨hl, h1, _, _, rfl, fun w hs _ => ⟨_, rfl, fun i u hu => by rw [addr_add, Nat.zero_add]; exact hs.cell hj hu⟩⟩
theorem Sor.list {α : Type} {z m c : Nat} {A : Option Addr} {enc : α → List Value} {zs : List α} (hlen : ∀ x, (enc x).length = z) (h1 : ∀ x, (enc x).all (fun u => u.oneCell') = true) (hz : zs.length = m) (h : ∀ w, Sta e0 U L w → IsT z enc w A m zs) :
  Sor e0 U L z (.slice A m c) m (zs.flatMap enc) := by
 refine ⟨?_, ?_, _, _, rfl, fun w hs h0 => ?_⟩
 ·subst hz
  clear h
  induction zs with
  | nil => simp
  | cons x r ih => rw [List.flatMap_cons, List.length_append, hlen, ih, List.length_cons, Nat.add_mul]; omega
 ·clear h hz
  induction zs with
  | nil => rfl
  | cons x r ih => rw [List.flatMap_cons, List.all_append, h1, ih]; rfl
 ·obtain ⟨b, o, e, h2, h3⟩ := (h w hs).2 h0
  refine ⟨_, e, fun j u hu => ?_⟩
  rw [addr_add]
  have key : ∀ (ys : List α) (k j : Nat) (u : Value), (ys.flatMap enc)[j]? = some u → (∀ i x, ys[i]? = some x → zs[k + i]? = some x) → w.cell? ⟨b, o + (k * z + j), none⟩ = some u := by
   intro ys
   induction ys with
   | nil => intro k j u hu _; simp at hu
   | cons y r ih =>
    intro k j u hu hk
    rw [List.flatMap_cons] at hu
    rcases Nat.lt_or_ge j z with g | g
    ·rw [List.getElem?_append_left (by rw [hlen]; exact g)] at hu
     have := h3 k y (hk 0 y rfl) j u hu
     rw [← Nat.add_assoc]; exact this
    ·rw [List.getElem?_append_right (by rw [hlen]; exact g), hlen] at hu
     have := ih (k + 1) (j - z) u hu (fun i x hx => by rw [Nat.add_assoc, Nat.add_comm 1 i]; exact hk (i + 1) x hx)
     rw [Nat.add_mul] at this
     rw [show k * z + j = k * z + 1 * z + (j - z) by omega]; exact this
  have := key zs 0 j u hu (fun i x hx => by simpa using hx)
  simpa using this
theorem al_grow {t e z bytes n m : Nat} {zv : Value} {o : Gr} {cs vs : List Value} {L1 G : Boxes} {y : Value} {ox oy : Operand} (hx : E l ox = some (.slice (gA o) n (gC o))) (hy : E l oy = some y) (hT : Tl L1 (gt o cs ++ G) L) (hg : gok o n z cs) (hs : Sor e0 U L z y m vs)
  (hu : P.underlying t = some (.slice e)) (hinfo : (P.info? e).map (fun i => (i.zero, i.size, i.bytes)) = some (some zv, z, bytes)) (hzv : zv.cells.size = z) (hm : n + m ≤ 1000000) (hb : bytes ≤ 10000)
  (hn : Nat.blt d e0.n = true) (hw : want ops l g = some true)
  (k : ∀ o', gok o' (n + m) z (cs ++ vs) → ∃ L', Tl L1 (gt o' (cs ++ vs) ++ G) L' ∧ AL P ops Q e0 U ((d, .slice (gA o') (n + m) (gC o')) :: l) L' rest) :
  AL P ops Q e0 U l L (⟨some d, .call ⟨.builtin .append, #[ox, oy], #[t, t]⟩, ty, pos, af, g⟩ :: rest) :=
 al_run2 (K := True) hw rfl hn (fun a w hf hst => by
  obtain ⟨hl, h1, yA, c, rfl, hc⟩ := hs
  rcases Nat.eq_zero_or_pos m with h0 | h0
  ·subst h0
   have hv : vs = [] := List.length_eq_zero_iff.1 (by simpa using hl)
   subst hv
   obtain ⟨ti, hti, hz, rfl, rfl⟩ := info_split hinfo
   have hsrc : Go.Src P ti.size t (.slice yA 0 c) 0 [] w := by
    cases yA with
    | none => exact Go.Src.ofNil w hu c
    | some A => exact Go.Src.ofSlice w hu A 0 c [] (by simp) (fun j u h => by simp at h) (fun u h => by cases h)
   have hr := run_append_nothing (P := P) w t t ty e ti hu hti (gA o) n (gC o) hg.le.1 _ hsrc
   obtain ⟨L', hL', hk⟩ := k o (by simpa using hg)
   have e1 : L' = L := by rw [hL'.eq, hT.eq]; simp
   exact ⟨_, w, U, L', ex_append (hf.ev hx) (hf.ev hy) hr, by rw [e1]; exact hst, hk⟩
  ·obtain ⟨A, rfl, hA⟩ := hc w hst h0
   rcases o with _ | ⟨b, cap, sp⟩
   ·have hn0 := hg.nil rfl
    subst hn0
    have hcs : cs = [] := List.length_eq_zero_iff.1 (by simpa using hg.len)
    subst hcs
    have eL : L = L1 ++ G := by rw [hT.eq]; simp [gt]
    obtain ⟨b', cap', sp', w', hr, h2, h3, h4, hst'⟩ := run_appendNil (A := A) (c := c) ty hu hinfo hzv hst hl hA h0 (by omega) hb
    obtain ⟨L', hL', hk⟩ := k (some (b', cap', sp')) ⟨by simpa using hl, fun e => by (cases e), fun b c sp e => by cases e; rw [Nat.zero_add]; exact ⟨h2, h3, h4⟩⟩
    have e1 : ((0 : Nat) + m) = m := Nat.zero_add m
    rw [e1] at hk
    refine ⟨_, w', U, L', ex_append (hf.ev hx) (hf.ev hy) hr, ?_, hk⟩
    rw [hL'.eq]
    refine hst'.perm ?_
    rw [eL]
    show ((b', Cont.cells (vs ++ sp')) :: (L1 ++ G)).Perm (L1 ++ ((b', Cont.cells ([] ++ vs ++ sp')) :: G))
    rw [List.nil_append]
    exact List.perm_middle.symm
   ·obtain ⟨g1, g2, g3⟩ := hg.own b cap sp rfl
    have hL := hT.eq
    have hi : L[L1.length]? = some (b, .cells (cs ++ sp)) := by rw [hL]; simp [gt]
    obtain ⟨b', cap', sp', w', hr, h2, h3, h4, hst'⟩ := run_appendBox (A := A) (c := c) ty hu hinfo hzv hst hi hg.len g3 g1 g2 hl hA (by simpa using h1) hm hb
    obtain ⟨L', hL', hk⟩ := k (some (b', cap', sp')) ⟨by rw [List.length_append, hg.len, hl, Nat.add_mul], fun e => by (cases e), fun b c sp e => by cases e; exact ⟨h2, h3, h4⟩⟩
    refine ⟨_, w', U, L', ex_append (hf.ev hx) (hf.ev hy) hr, ?_, hk⟩
    rw [hL'.eq]
    have e2 : L.set L1.length (b', .cells ((cs ++ vs) ++ sp')) = L1 ++ (gt (some (b', cap', sp')) (cs ++ vs) ++ G) := by
     rw [hL, List.set_append_right _ _ (Nat.le_refl _)]; simp [gt]
    rw [← e2]; exact hst')
theorem aq_sub {V : Snaps} {S : Slots} {M : Boxes} {X : Act → World → Prop} (h : AQ e0 V S M X) (hl : AllLook l S) (hL : ∀ w, Sta e0 U L w → Sta e0 V M w) : AQ e0 U l L X := fun a w hf hs => h a w (hf.sub hl.sub) (hL w hs)
theorem ac_cut {β : Type} {c1 c2 : Code} (F : β → Prop) (S : β → Slots) (V : β → Snaps) (M : β → Boxes → Boxes)
  (h1 : ∀ X : Act → World → Prop, (∀ y, F y → AQ e0 (V y) (S y) (M y L) X) → AC P e0 U l L c1 (Exit.then X Q)) (h2 : ∀ y, F y → AC P e0 (V y) (S y) (M y L) c2 Q) : AC P e0 U l L (.seq c1 c2) Q := ac_seq (h1 _ h2)
end
structure NewT {α : Type} (z : Nat) (enc : α → List Value) (B : Nat) (w : World) (A : Option Addr) (n c : Nat) (zs : List α) : Prop where
 isT : IsT z enc w A n zs
 new : ∀ b off, A = some ⟨b, off, none⟩ → B ≤ b
 le : n ≤ c ∧ c ≤ 9223372036854775807
theorem Sta.grown {α : Type} {z n N : Nat} {D : List Deferred} {enc : α → List Value} (hlen : ∀ x, (enc x).length = z) {w0 w : World} {U : Snaps} {L : Boxes} {o : Gr} {cs : List Value} {zs : List α} (h : Sta ⟨N, D, w0, []⟩ U L w) (hT : ∀ x ∈ gt o cs, x ∈ L) (hg : gok o n z cs)
  (hz : zs.flatMap enc = cs) (hn : zs.length = n) : NewT z enc w0.heap.size w (gA o) n (gC o) zs := by
 refine ⟨?_, fun b off e => ?_, hg.le⟩
 ·rcases o with _ | ⟨b, c, sp⟩
  ·have := hg.nil rfl
   exact ⟨hn, fun h0 => by omega⟩
  ·obtain ⟨i, hi⟩ := List.getElem?_of_mem (hT (b, .cells (cs ++ sp)) (by simp [gt]))
   exact isT_box hlen (h.at _ hi) hz hn
 ·rcases o with _ | ⟨b', c, sp⟩
  ·cases e
  ·obtain ⟨i, hi⟩ := List.getElem?_of_mem (hT (b', .cells (cs ++ sp)) (by simp [gt]))
   have := (h.box _ _ _ hi).1
   cases e
   rcases this with g | g
   ·exact g
   ·cases g
theorem flat_int : ∀ l : List Int, l.flatMap intCells = l.map (Value.int .i64)
 | [] => rfl
 | x :: l => by rw [List.flatMap_cons, flat_int l]; rfl
theorem Sta.newT {α : Type} {z n c : Nat} {enc : α → List Value} {E : Cfg} {U : Snaps} {L : Boxes} {w u : World} {lo : Nat} {A : Option Addr} {zs : List α} (h : Sta E U L w) (hu : (lo, u) ∈ U) (hN : NewT z enc lo u A n c zs) : IsT z enc w A n zs :=
 h.isT hu hN.isT fun b o e => Or.inl (hN.new b o e)
end
section
set_option autoImplicit false
open Go.RowKit
section
variable {P : Program} {e0 : Cfg} {U : Snaps} {l : Slots} {L : Boxes} {ops : Array Oper} {Q : Exit → Act → World → Prop} {rest : List Oper} {d : Nat} {v : Value}
variable {ty : TypeId} {pos : String} {af : Array Edge} {g : Option (Nat × Bool)} {dd : Option Nat}
theorem ac_drawK {L0 : Boxes} {id : Nat} {os : List Oper} (k last : Nat) (hL : L.drop k = L0) (hm : P.follows .mixedOrders = true) (hok : lastOk os.toArray last = true) (h : AH P os.toArray Q U L0 last os.toArray.size (Array.replicate os.toArray.size false) e0 U l L) : AC P e0 U l L (.region id os.toArray true) Q :=
 fun a w hf hs => wp_region_any hm (wpAny_of_G _ _ _ _ (h hok (DrawnTo.start _ _) a _ hf hs.drew))
theorem IsT.piece {α : Type} {z : Nat} {enc : α → List Value} {w : World} {len b o : Nat} {zs : List α} (h : IsT z enc w (some ⟨b, o, none⟩) len zs) {lo n : Nat} (hl : lo + n ≤ len) : IsT z enc w (some ⟨b, o + lo * z, none⟩) n ((zs.drop lo).take n) := by
 refine ⟨by rw [List.length_take, List.length_drop, h.1]; omega, fun h0 => ?_⟩
 obtain ⟨b', o', e, h1, h2⟩ := h.2 (by omega)
 cases e
 refine ⟨_, _, rfl, h1, fun j x hx i v hv => ?_⟩
 have hj : j < n := by
  have := (List.getElem?_eq_some_iff.1 hx).1
  rw [List.length_take] at this; omega
 rw [List.getElem?_take_of_lt hj, List.getElem?_drop] at hx
 have := h2 (lo + j) x hx i v hv
 rw [Nat.add_mul] at this
 rw [← this]; congr 2; omega
theorem SetAt.ofSet {α : Type} : ∀ {n : Nat} {x : α} {l : List α}, n < l.length → SetAt n x l (l.set n x)
 | 0, x, y :: l, _ => .z
 | n + 1, x, y :: l, h => .s (SetAt.ofSet (by simpa using h))
end
theorem Sta.cellOf {E : Cfg} {U : Snaps} {L : Boxes} {w u : World} {lo b k : Nat} {v : Value} (h : Sta E U L w) (hu : (lo, u) ∈ U) (hlo : lo ≤ b) (hlt : b < u.heap.size) (hc : u.cell? ⟨b, k, none⟩ = some v) : w.cell? ⟨b, k, none⟩ = some v := by
 obtain ⟨s0, s1, s2, s3, s4, -⟩ := h.snap _ _ hu
 rw [World.cell?_of_block (w := u) (w' := w) (a := ⟨b, _, none⟩) (s3 b hlo hlt)]; exact hc
end
section
open Go.RowKit
set_option maxHeartbeats 2000000 in
theorem indexint2 (k : Nat) (c0 : Nat) (c1 : Nat) (p : Int → Bool) (A : Option Addr) (len cap : Nat) (zs : List Int) (w : World) (hI : IsT 1 intCells w A len zs) (hl : len ≤ 1000000000000000)
  (hE : ∀ (args : Array Value) (W : World), (callFunc k args).run Tryz.prog W = .ok (.enter k args) W)
  (hk : ∀ (x : Int) (W : World), x ∈ zs → Below w.heap.size w W → Calls Tryz.prog k #[intV x, .pointer (some ⟨c0, 0, none⟩), .pointer (some ⟨c1, 0, none⟩)] W (Ret (.bool (p x)) W)) :
  Calls Tryz.prog 155 #[.slice A len cap, .func (.func k) #[] #[.pointer (some ⟨c0, 0, none⟩), .pointer (some ⟨c1, 0, none⟩)]] w (Ret (.int .i64 (idxL p zs)) w) := by
 have HI := Lib.hid hI
 have HK := Lib.hid hk
 have HG : Hid (idxL p zs = idxGo p zs 0) := Lib.hid rfl
 generalize idxL p zs = G at *
 clear hI hk
 go_enter Tryz.func155, Tryz.ntmps155
 go_wp2_with fail
 go_loopw [5, 8] (fun _ i wr => ∃ j : Nat, j ≤ len ∧ i = .int .i64 j ∧ Hid (idxGo p (zs.drop j) j = G) ∧ Below w.heap.size w wr) (fun _ i _ => len - (intOf i).toNat)
 case atStart => exact ⟨0, Nat.zero_le _, rfl, Lib.hid HG.out.symm, Below.refl _ _⟩
 case round =>
  obtain ⟨j, hj, rfl, hG, hB⟩ := hrel
  by_cases hlt : j < len
  ·obtain ⟨hzl, hcl⟩ := HI.out.below hB
   obtain ⟨b, o, rfl, hb0, hcl⟩ := hcl (by omega)
   obtain ⟨x, hx⟩ : ∃ x, zs[j]? = some x := ⟨_, List.getElem?_eq_getElem (by omega)⟩
   have HM := Lib.hid (List.mem_of_getElem? hx)
   have HS := Lib.hid (idxGo_drop p hx (j : Int))
   have x0 : wr.cell? ⟨b, o + j, none⟩ = some (.int .i64 x) := by have h := hcl j x hx 0 _ rfl; simpa using h
   have hsz := hB.size
   have HC := Lib.hid (HK.out x)
   clear hcl hx hzl
   cases hp : p x
   ·have HN : Hid (idxGo p (zs.drop (j + 1)) ((j + 1 : Nat) : Int) = G) := Lib.hid (by rw [← hG.out, HS.out, hp]; rfl)
    have HC := Lib.hid (show ∀ W, Below w.heap.size w W → Calls Tryz.prog k #[intV x, .pointer (some ⟨c0, 0, none⟩), .pointer (some ⟨c1, 0, none⟩)] W (Ret (.bool false) W) from fun W h => by have := HC.out W HM.out h; rwa [hp] at this)
    clear hp
    go_wp2_with ((with_reducible show Calls _ k _ _ _); refine (HC.out _ (by (repeat with_reducible assumption))).mono ?_; rintro e w1 ⟨rfl, hb⟩; have hB1 : Below w.heap.size w w1 := Below.trans (by (repeat with_reducible assumption)) (hb.mono (by omega)))
    go_roundw
    case rel => exact ⟨j + 1, by omega, by go_num, HN, by (repeat with_reducible assumption)⟩
    case measure => simp [intOf]; omega
   ·have HN : Hid ((j : Int) = G) := Lib.hid (by rw [← hG.out, HS.out, hp]; rfl)
    have HC := Lib.hid (show ∀ W, Below w.heap.size w W → Calls Tryz.prog k #[intV x, .pointer (some ⟨c0, 0, none⟩), .pointer (some ⟨c1, 0, none⟩)] W (Ret (.bool true) W) from fun W h => by have := HC.out W HM.out h; rwa [hp] at this)
    clear hp
    go_wp2_with ((with_reducible show Calls _ k _ _ _); refine (HC.out _ (by (repeat with_reducible assumption))).mono ?_; rintro e w1 ⟨rfl, hb⟩; have hB1 : Below w.heap.size w w1 := Below.trans (by (repeat with_reducible assumption)) (hb.mono (by omega)))
    go_ret
    exact ⟨by rw [← HN.out]; rfl, by (repeat with_reducible assumption)⟩
  ·have HN : Hid ((-1 : Int) = G) := Lib.hid (by rw [← hG.out, List.drop_of_length_le (by rw [HI.out.1]; omega)]; rfl)
   go_wp2
   go_ret
   exact ⟨by rw [← HN.out]; rfl, hB⟩
set_option maxHeartbeats 1000000 in
theorem containsint2 (k : Nat) (c0 : Nat) (c1 : Nat) (p : Int → Bool) (A : Option Addr) (len cap : Nat) (zs : List Int) (w : World) (hI : IsT 1 intCells w A len zs) (hl : len ≤ 1000000000000000)
  (hE : ∀ (args : Array Value) (W : World), (callFunc k args).run Tryz.prog W = .ok (.enter k args) W)
  (hk : ∀ (x : Int) (W : World), x ∈ zs → Below w.heap.size w W → Calls Tryz.prog k #[intV x, .pointer (some ⟨c0, 0, none⟩), .pointer (some ⟨c1, 0, none⟩)] W (Ret (.bool (p x)) W)) :
  Calls Tryz.prog 119 #[.slice A len cap, .func (.func k) #[] #[.pointer (some ⟨c0, 0, none⟩), .pointer (some ⟨c1, 0, none⟩)]] w (Ret (.bool (zs.any p)) w) := by
 have HI := Lib.hid (indexint2 k c0 c1 p A len cap zs w hI hl hE hk)
 have HA := Lib.hid (idxL_nonneg p zs)
 obtain ⟨b1, b2⟩ := idxL_bd p zs
 rw [hI.1] at b2
 clear hI hE hk
 generalize idxL p zs = G at *
 go_enter Tryz.func119, Tryz.ntmps119
 go_wp2_with (go_at_call 155; refine HI.out.mono ?_; rintro e w1 ⟨rfl, hb⟩)
 go_ret
 exact ⟨by rw [← HA.out]; rfl, hb⟩
end
section
open Go.RowKit Go.Shelf
set_option maxHeartbeats 1000000 in
theorem allWithin1_any (x a b : Int) (c0 c1 : Nat) (w : World) (h0 : w.cell? ⟨c0, 0, none⟩ = some (.int .i64 a)) (h1 : w.cell? ⟨c1, 0, none⟩ = some (.int .i64 b)) :
  Calls Tryz.prog 120 #[intV x, .pointer (some ⟨c0, 0, none⟩), .pointer (some ⟨c1, 0, none⟩)] w (Ret (.bool (!wthn x a b)) w) := by
 go_enter Tryz.func120, Tryz.ntmps120
 go_wp2_with (go_at_call 78; refine (mwithin_any _ _ _ _).mono ?_; rintro e w1 ⟨rfl, rfl⟩)
 go_ret
 exact ⟨rfl, by (repeat with_reducible exact Below.refl _ _)⟩
def allW (l : List Int) (a b : Int) : Bool := l.all fun x => wthn x a b
theorem not_any_allW (l : List Int) (a b : Int) : (!(l.any fun x => !wthn x a b)) = allW l a b := by
 unfold allW
 induction l with
 | nil => rfl
 | cons x r ih => simp only [List.any_cons, List.all_cons, Bool.not_or, Bool.not_not, ih]
set_option maxHeartbeats 1000000 in
theorem allWithin_any (A : Option Addr) (len cap : Nat) (zs : List Int) (a b : Int) (w : World) (hI : IsT 1 intCells w A len zs) (hl : len ≤ 1000000000000000) :
  Calls Tryz.prog 72 #[.slice A len cap, .int .i64 a, .int .i64 b] w (Ret (.bool (allW zs a b)) w) := by
 have HE := Lib.hid (not_any_allW zs a b)
 have HC := Lib.hid (fun W (hb : Below w.heap.size w W) (h0 : w.heap.size + 1 < W.heap.size) (h1 : W.cell? ⟨w.heap.size, 0, none⟩ = some (.int .i64 a)) (h2 : W.cell? ⟨w.heap.size + 1, 0, none⟩ = some (.int .i64 b)) =>
  containsint2 120 w.heap.size (w.heap.size + 1) (fun x => !wthn x a b) A len cap zs W (hI.below hb) hl (fun args W => enters_of Tryz.func120 (by kernel_rfl) rfl args W)
   (fun x W' _ hB => allWithin1_any x a b _ _ W' ((hB.cell (p := ⟨w.heap.size, 0, none⟩) (by show w.heap.size < _; omega)).trans h1) ((hB.cell (p := ⟨w.heap.size + 1, 0, none⟩) (by show w.heap.size + 1 < _; omega)).trans h2)))
 clear hI
 generalize allW zs a b = G at *
 generalize (zs.any fun x => !wthn x a b) = K at *
 go_enter Tryz.func72, Tryz.ntmps72
 go_wp2_with (go_at_call 119; refine (HC.out _ (by (repeat first | with_reducible exact Below.refl _ _ | (with_reducible refine Below.alloc ?_ ?_ _; rotate_left; exact (by first | omega | (simp; done))))) (by ((try simp only [World.size_alloc, World.size_setCell, size_drew, size_drewN]); omega)) (by go_simp) (by go_simp)).mono ?_; rintro e w1 ⟨rfl, hb⟩)
 go_ret
 exact ⟨by rw [← HE.out]; rfl, Below.trans (by (repeat first | with_reducible exact Below.refl _ _ | (with_reducible refine Below.alloc ?_ ?_ _; rotate_left; exact (by first | omega | (simp; done))))) (hb.mono (by ((try simp only [World.size_alloc, World.size_setCell, size_drew, size_drewN]); omega)))⟩
def tot (s : Int) : List Int → Int
 | [] => s
 | x :: r => tot (wrap64 (s + x)) r
theorem tot_drop {l : List Int} {k : Nat} {x : Int} (h : l[k]? = some x) (s : Int) : tot s (l.drop k) = tot (wrap64 (s + x)) (l.drop (k + 1)) := by
 obtain ⟨hk, rfl⟩ := List.getElem?_eq_some_iff.1 h
 rw [List.drop_eq_getElem_cons hk]; rfl
structure CurR where
 (A B C : Option Addr) (la ca lb cb lc cc : Nat)
structure CurD where
 (coils shells plasma : List Int)
abbrev CurR.v (R : CurR) : Value := .agg #[.slice R.A R.la R.ca, .slice R.B R.lb R.cb, .slice R.C R.lc R.cc]
structure IsC (w : World) (R : CurR) (C : CurD) : Prop where
 coils : IsT 1 intCells w R.A R.la C.coils
 shells : IsT 1 intCells w R.B R.lb C.shells
 plasma : IsT 1 intCells w R.C R.lc C.plasma
 la : R.la ≤ R.ca
 lb : R.lb ≤ R.cb
 lc : R.lc ≤ R.cc
 ca : R.ca ≤ 9223372036854775807
 cb : R.cb ≤ 9223372036854775807
 cc : R.cc ≤ 9223372036854775807
 ka : R.la ≤ 1000000000000000
 kb : R.lb ≤ 1000000000000000
 kc : R.lc ≤ 1000000000000000
theorem IsC.below {w w1 : World} {R : CurR} {C : CurD} (h : IsC w R C) (hb : Below w.heap.size w w1) : IsC w1 R C :=
 ⟨h.coils.below hb, h.shells.below hb, h.plasma.below hb, h.la, h.lb, h.lc, h.ca, h.cb, h.cc, h.ka, h.kb, h.kc⟩
set_option maxHeartbeats 1000000 in
theorem total_any (A B C : Option Addr) (la ca lb cb len cap : Nat) (zs : List Int) (w : World) (hI : IsT 1 intCells w C len zs) (hl : len ≤ 1000000000000000) :
  Calls Tryz.prog 74 #[.agg #[.slice A la ca, .slice B lb cb, .slice C len cap]] w (Ret (.int .i64 (tot 0 zs)) w) := by
 have HI := Lib.hid hI
 obtain ⟨G, hG0⟩ : ∃ G, tot 0 zs = G := ⟨_, rfl⟩
 have HG := Lib.hid hG0
 rw [hG0]
 clear hG0 hI
 go_enter Tryz.func74, Tryz.ntmps74
 go_wp2_with fail
 go_loopw [3, 5, 9] (fun s _ i wr => ∃ (j : Nat) (t : Int), j ≤ len ∧ i = .int .i64 j ∧ s = .int .i64 t ∧ Hid (tot t (zs.drop j) = G) ∧ Below w.heap.size w wr) (fun _ _ i _ => len - (intOf i).toNat)
 case atStart => exact ⟨0, 0, Nat.zero_le _, rfl, rfl, Lib.hid HG.out, by (repeat first | with_reducible exact Below.refl _ _ | (with_reducible refine Below.alloc ?_ ?_ _; rotate_left; exact (by omega)))⟩
 case round =>
  obtain ⟨j, t, hj, rfl, rfl, hG, hB⟩ := hrel
  by_cases hlt : j < len
  ·obtain ⟨hzl, hcl⟩ := HI.out.below hB
   obtain ⟨b, o, rfl, hb0, hcl⟩ := hcl (by omega)
   obtain ⟨x, hx⟩ : ∃ x, zs[j]? = some x := ⟨_, List.getElem?_eq_getElem (by omega)⟩
   have HN := Lib.hid ((tot_drop hx t).symm.trans hG.out)
   have x0 : wr.cell? ⟨b, o + j, none⟩ = some (.int .i64 x) := by have h := hcl j x hx 0 _ rfl; simpa using h
   clear hcl hx hzl
   go_wp2_with fail
   go_roundw
   case rel => exact ⟨j + 1, _, by omega, by go_num, rfl, HN, hB⟩
   case measure => simp [intOf]; omega
  ·have HN : Hid (t = G) := Lib.hid (by rw [← hG.out, List.drop_of_length_le (by rw [HI.out.1]; omega)]; rfl)
   go_wp2
   go_ret
   exact ⟨by rw [← HN.out]; rfl, hB⟩
def validC (M : MachD) (C : CurD) : Bool :=
 decide (checkC M = 0) && (decide (C.coils.length = M.coils.length) && (allW C.coils (-1000000) 1000000 && (decide (C.shells.length = M.shells.length) && (allW C.shells (-1000000) 1000000 &&
  (decide ((C.plasma.length : Int) = M.grid.nr * M.grid.nz) && (allW C.plasma 0 1000000 && decide (tot 0 C.plasma ≤ 1000000)))))))
end
section
open Go.RowKit
def infl (a b c d : Int) : Int := if nearB a b 1000 = true ∧ nearB c d 1000 = true then 1000000 / (4 + (a - c) * (a - c) + (b - d) * (b - d)) else 0
theorem sq_bd {x : Int} (h0 : -2000 ≤ x) (h1 : x ≤ 2000) : 0 ≤ x * x ∧ x * x ≤ 4000000 := by
 rcases Int.le_total 0 x with h | h
 ·exact ⟨Int.mul_nonneg h h, Int.mul_le_mul h1 h1 h (by omega)⟩
 ·rw [← Int.neg_mul_neg]
  exact ⟨Int.mul_nonneg (by omega) (by omega), Int.mul_le_mul (a := -x) (b := -x) (c := 2000) (d := 2000) (by omega) (by omega) (by omega) (by omega)⟩
theorem nearB_bd {r z f : Int} (h : nearB r z f = true) : (-f ≤ r ∧ r ≤ f) ∧ -f ≤ z ∧ z ≤ f := by simpa [nearB, wthn] using h
theorem infl_bd (a b c d : Int) : 0 ≤ infl a b c d ∧ infl a b c d ≤ 250000 := by
 unfold infl
 split
 ·rename_i h
  have h1 := nearB_bd h.1
  have h2 := nearB_bd h.2
  have s1 := sq_bd (x := a - c) (by omega) (by omega)
  have s2 := sq_bd (x := b - d) (by omega) (by omega)
  generalize (a - c) * (a - c) = p at *
  generalize (b - d) * (b - d) = q at *
  refine ⟨Int.ediv_nonneg (by omega) (by omega), ?_⟩
  have : 1000000 / (4 + p + q) ≤ 1000000 / 4 := by
   rw [Int.le_ediv_iff_mul_le (by omega)]
   have h4 : 1000000 / (4 + p + q) * (4 + p + q) ≤ 1000000 := Int.ediv_mul_le _ (by omega)
   have h5 : 0 ≤ 1000000 / (4 + p + q) := Int.ediv_nonneg (by omega) (by omega)
   have h6 : 1000000 / (4 + p + q) * 4 ≤ 1000000 / (4 + p + q) * (4 + p + q) := Int.mul_le_mul_of_nonneg_left (by omega) h5
   omega
  omega
 ·omega
set_option maxRecDepth 100000 in
set_option maxHeartbeats 2000000 in
theorem influence_any (a b c d : Int) (w : World) :
  Calls Tryz.prog 123 #[.agg #[.int .i64 a, .int .i64 b], .agg #[.int .i64 c, .int .i64 d]] w (Ret (.int .i64 (infl a b c d)) w) := by
 cases n1 : nearB a b 1000
 ·have HE : Hid (infl a b c d = 0) := Lib.hid (by unfold infl; rw [if_neg (by simp [n1])])
  go_enter Tryz.func123, Tryz.ntmps123
  go_wp2_with (go_at_call 157; refine (near_any _ _ _ _ (by omega) (by omega)).mono ?_; rintro e w1 ⟨rfl, rfl⟩)
  go_ret
  exact ⟨by rw [HE.out]; rfl, by (repeat first | with_reducible exact Below.refl _ _ | (with_reducible refine Below.alloc ?_ ?_ _; rotate_left; exact (by first | omega | (simp; done))))⟩
 cases n2 : nearB c d 1000
 ·have HE : Hid (infl a b c d = 0) := Lib.hid (by unfold infl; rw [if_neg (by simp [n2])])
  go_enter Tryz.func123, Tryz.ntmps123
  go_wp2_with (go_at_call 157; refine (near_any _ _ _ _ (by omega) (by omega)).mono ?_; rintro e w1 ⟨rfl, rfl⟩)
  go_ret
  exact ⟨by rw [HE.out]; rfl, by (repeat first | with_reducible exact Below.refl _ _ | (with_reducible refine Below.alloc ?_ ?_ _; rotate_left; exact (by first | omega | (simp; done))))⟩
 have HE : Hid (infl a b c d = 1000000 / (4 + (a - c) * (a - c) + (b - d) * (b - d))) := Lib.hid (by unfold infl; rw [if_pos ⟨n1, n2⟩])
 obtain ⟨⟨a0, a1⟩, b0, b1⟩ := nearB_bd n1
 obtain ⟨⟨c0, c1⟩, d0, d1⟩ := nearB_bd n2
 have s1 := sq_bd (x := a - c) (by omega) (by omega)
 have s2 := sq_bd (x := b - d) (by omega) (by omega)
 have e1 : IntKind.i64.wrap (a - c) = a - c := IntWalk.i64_in _ (by omega)
 have e2 : IntKind.i64.wrap (b - d) = b - d := IntWalk.i64_in _ (by omega)
 go_enter Tryz.func123, Tryz.ntmps123
 go_wp2_with (go_at_call 157; refine (near_any _ _ _ _ (by omega) (by omega)).mono ?_; rintro e w1 ⟨rfl, rfl⟩)
 go_quiet (fail)
 obtain ⟨g0, g1⟩ := infl_bd a b c d
 generalize infl a b c d = G at *
 generalize hx : a - c = x at *
 generalize hy : b - d = y at *
 clear n1 n2
 generalize hp : x * x = p at *
 generalize hq : y * y = q at *
 have k0 : ¬(4 + p + q = 0) := by omega
 have k1 : ((4 + p + q) == 0) = false := by rw [beq_eq_false_iff_ne]; omega
 have k2 : (1000000 : Int).tdiv (4 + p + q) = G := by rw [HE.out]; exact Int.tdiv_eq_ediv_of_nonneg (by omega)
 have k3 : (1000000 : Int) / (4 + p + q) = G := HE.out.symm
 clear HE
 go_wp2_with fail
 go_ret
 exact ⟨rfl, by (repeat first | with_reducible exact Below.refl _ _ | (with_reducible refine Below.alloc ?_ ?_ _; rotate_left; exact (by first | omega | (simp; done))) | with_reducible refine Below_drewN ?_ _)⟩
end
section
open Go.RowKit Go.Shelf
attribute [local go_sem] Oper.semAt_some
theorem grown_of_below {a b : World} (h : Below a.heap.size a b) : a.grownBy b none := ⟨h.os, h.tape, h.output, h.size, fun k hk _ => h.block k hk⟩
def KpF (n₀ tm tc : Nat) (W W' : World) : Prop := Below n₀ W W' ∧ ∀ b o, b = tm ∨ b = tc → W'.cell? ⟨b, o, none⟩ = W.cell? ⟨b, o, none⟩
theorem KpF.t {n₀ tm tc : Nat} {A B C : World} (h : KpF n₀ tm tc A B) (k : KpF n₀ tm tc B C) : KpF n₀ tm tc A C := ⟨h.1.trans k.1, fun b o hb => (k.2 b o hb).trans (h.2 b o hb)⟩
theorem KpF.refl (n₀ tm tc : Nat) (A : World) : KpF n₀ tm tc A A := ⟨Below.refl _ _, fun _ _ _ => rfl⟩
theorem KpF.of_below {n₀ tm tc : Nat} {A B : World} (h0 : n₀ ≤ A.heap.size) (h1 : tm < A.heap.size) (h2 : tc < A.heap.size) (h : Below A.heap.size A B) : KpF n₀ tm tc A B :=
 ⟨h.mono h0, fun b o hb => h.cell (p := ⟨b, o, none⟩) (by show b < _; omega)⟩
theorem KpF.b {n₀ tm tc : Nat} {w : World} (hn : n₀ ≤ w.heap.size) (h1 : tm < w.heap.size) (h2 : tc < w.heap.size) (W : World) (l : Nat) (o o' : Obj) (hl : w.heap.size ≤ l) (h : W.heap[l]? = some o) (a : o.isCells = false) (b : o.isWalk = false) : KpF n₀ tm tc W (W.putObj l o') :=
 ⟨belowK_b hn W l o o' hl h a b, fun k i hk => World.cell?_of_block (w := W) (a := ⟨k, i, none⟩) (World.putObj_heap_other (by intro e; dsimp only at e; omega))⟩
theorem KpF.cell {n₀ tm tc : Nat} {W W' : World} (h : KpF n₀ tm tc W W') {b o : Nat} {v : Value} (hb : b = tm ∨ b = tc) (hv : W.cell? ⟨b, o, none⟩ = some v) : W'.cell? ⟨b, o, none⟩ = some v := (h.2 b o hb).trans hv
abbrev Src := (Int × Int) × Int
abbrev srcEnc (x : Src) : Array Value := #[.agg #[.int .i64 x.1.1, .int .i64 x.1.2], .int .i64 x.2]
def cellSrc (g : GridD) (zs : List Int) (k : Nat) : List Src := (List.range k).map fun (j : Nat) => ((cellR g (j : Int), cellZ g (j : Int)), zs[j]?.getD 0)
theorem cellSrc_succ (g : GridD) (zs : List Int) (k : Nat) : cellSrc g zs (k + 1) = cellSrc g zs k ++ [((cellR g (k : Int), cellZ g (k : Int)), zs[k]?.getD 0)] := by simp [cellSrc, List.range_succ]
theorem cellSrc_length (g : GridD) (zs : List Int) (k : Nat) : (cellSrc g zs k).length = k := by simp [cellSrc]
def fluxW (p : Int × Int) : Int → List Src → Int
 | s, [] => s
 | s, x :: r => fluxW p (wrap64 (s + wrap64 (infl p.1 p.2 x.1.1 x.1.2 * x.2))) r
theorem fluxW_snoc (p : Int × Int) (s : Int) (pre : List Src) (x : Src) : fluxW p s (pre ++ [x]) = wrap64 (fluxW p s pre + wrap64 (infl p.1 p.2 x.1.1 x.1.2 * x.2)) := by
 induction pre generalizing s with
 | nil => rfl
 | cons y r ih => exact ih _
set_option maxRecDepth 100000 in
set_option maxHeartbeats 4000000 in
theorem sources1_bare (n : Nat) (hn : 3 ≤ n) (l tm tc n₀ len cap ca cb : Nat) (A B C : Option Addr) (g : GridD) (hg : g.Fine) (zs : List Int) (hl : len ≤ 1000) (J Jx : List Src → World → Prop)
  (hJ : ∀ pre W W', J pre W → Below W.heap.size W W' → J pre W')
  (hY : ∀ pre x W, J pre W → pre.length < len → YieldAt Fence.wide (n - 1) Tryz.prog l (srcEnc x) W fun e W' =>
   (e = .returned (.bool true) ∧ J (pre ++ [x]) W' ∧ KpF n₀ tm tc W W') ∨ (e = .returned (.bool false) ∧ Jx (pre ++ [x]) W'))
  (W : World) (hz : zs.length = len) (hC : 0 < len → ∃ b o : Nat, C = some ⟨b, o, none⟩ ∧ b < n₀ ∧ b < W.heap.size ∧ ∀ j x, zs[j]? = some x → W.cell? ⟨b, o + j, none⟩ = some (.int .i64 x)) (htm : tm < W.heap.size) (htc : tc < W.heap.size) (hn₀ : n₀ ≤ W.heap.size)
  (m1 : W.cell? ⟨tm, 1, none⟩ = some (.slice A 0 ca)) (m2 : W.cell? ⟨tm, 2, none⟩ = some (.slice B 0 cb)) (m4 : W.cell? ⟨tm, 4, none⟩ = some (.int .i64 g.r)) (m5 : W.cell? ⟨tm, 5, none⟩ = some (.int .i64 g.z)) (m6 : W.cell? ⟨tm, 6, none⟩ = some (.int .i64 g.nr)) (m7 : W.cell? ⟨tm, 7, none⟩ = some (.int .i64 g.nz)) (m8 : W.cell? ⟨tm, 8, none⟩ = some (.int .i64 g.step))
  (k2 : W.cell? ⟨tc, 2, none⟩ = some (.slice C len cap)) (h0 : J [] W) :
  CallsIn Fence.wide n Tryz.prog 156 #[.func (.yield l) #[] #[], .pointer (some ⟨tm, 0, none⟩), .pointer (some ⟨tc, 0, none⟩)] W fun e W' => (∃ v, e = .returned v) ∧
   ((∃ ys, ys = cellSrc g zs len ∧ J ys W') ∨ (∃ pre, (∃ k, k ≤ len ∧ pre = cellSrc g zs k) ∧ Jx pre W')) := by
 have HP := Lib.hid (fun (i : Nat) (hi : i < len) W => cellPlace_any g (i : Int) W hg (by omega) (by omega))
 have HJ := Lib.hid hJ
 have HC := Lib.hid hC
 have HS := Lib.hid (fun k => cellSrc_succ g zs k)
 have HL := Lib.hid (fun k => cellSrc_length g zs k)
 clear hJ hC hg
 have h86 : Fence.wide.fn 107 := trivial
 refine callsIn_of_wp Tryz.func156 rfl trivial ?_ rfl
 simp only [Tryz.ntmps156, List.size_toArray, List.length_cons, List.length_nil, Nat.reduceAdd, Nat.reduceSub, Array.replicate_succ, Array.replicate_zero, List.push_toArray, List.append_toArray, List.nil_append, List.cons_append]
 gi_wp2
 gi_loopw [13] (fun i wr => i = .int .i64 0 ∧ wr = W) (fun _ _ => 0)
 case atStart => exact ⟨rfl, rfl⟩
 case round =>
  obtain ⟨rfl, rfl⟩ := hrel
  gi_wp2
  gi_loopw [38] (fun i wx => i = .int .i64 0 ∧ wx = wr) (fun _ _ => 0)
  case atStart => exact ⟨rfl, rfl⟩
  case round =>
   obtain ⟨rfl, rfl⟩ := hrel
   obtain ⟨W0, rfl⟩ : ∃ W0 : World, W0 = wr := ⟨_, rfl⟩
   gi_wp2
   gi_loopw [60] (fun i wx => ∃ k : Nat, k ≤ len ∧ i = .int .i64 k ∧ J (cellSrc g zs k) wx ∧ KpF n₀ tm tc W0 wx ∧ W0.heap.size ≤ wx.heap.size) (fun i _ => len - (intOf i).toNat)
   case atStart => exact ⟨0, Nat.zero_le _, rfl, h0, KpF.refl _ _ _ _, Nat.le_refl _⟩
   case round =>
    obtain ⟨k, hk, rfl, hJs, hnx, hsz⟩ := hrel
    by_cases hlt : k < len
    ·obtain ⟨b, o, rfl, hb0, hb1, hcl⟩ := HC.out (by omega)
     obtain ⟨x, hx⟩ : ∃ x, zs[k]? = some x := ⟨_, List.getElem?_eq_getElem (by omega)⟩
     have x0 := (hnx.1.cell (p := ⟨b, o + k, none⟩) hb0).trans (hcl k x hx)
     have y4 := hnx.cell (.inl rfl) m4
     have y5 := hnx.cell (.inl rfl) m5
     have y6 := hnx.cell (.inl rfl) m6
     have y7 := hnx.cell (.inl rfl) m7
     have y8 := hnx.cell (.inl rfl) m8
     have HX : Hid (cellSrc g zs (k + 1) = cellSrc g zs k ++ [((cellR g (k : Int), cellZ g (k : Int)), x)]) := Lib.hid (by rw [HS.out, hx]; rfl)
     have HPk := Lib.hid (HP.out k hlt)
     have HYk := Lib.hid (fun W1 (hJ1 : J (cellSrc g zs k) W1) => hY _ ((cellR g (k : Int), cellZ g (k : Int)), x) W1 hJ1 (by rw [HL.out]; exact hlt))
     clear hcl hx hY
     generalize cellR g (k : Int) = R at *
     generalize cellZ g (k : Int) = Z at *
     gi_wp2_with (refine ⟨fun _ => (by omega), ?_⟩; gi_at_call 107; refine (callsIn_wide.2 (HPk.out _)).mono ?_; rintro e w1 ⟨rfl, hb⟩; have hJ1 := HJ.out _ _ _ hJs hb; have hn1 := KpF.of_below (n₀ := n₀) (tm := tm) (tc := tc) (by omega) (by omega) (by omega) hb; have hs1 := hb.size; obtain ⟨fn, tmps, assign, body, hy, hR⟩ := HYk.out w1 hJ1; simp only [srcEnc] at hy)
     refine ⟨fun _ => (by omega), hR.mono ?_⟩
     clear hR hy
     rintro e W3 (⟨rfl, hJ3, hk3⟩ | ⟨rfl, hJx3⟩)
     ·gi_wp2
      go_roundw
      case rel => exact ⟨k + 1, by omega, by go_num, by rw [HX.out]; exact hJ3, hnx.t (hn1.t hk3), by have := hk3.1.size; omega⟩
      case measure => simp [intOf]; omega
     ·gi_wp2
      refine bodyPost_ret (results_none rfl _ _ _) rfl ?_
      exact ⟨⟨_, rfl⟩, .inr ⟨_, ⟨k + 1, by omega, HX.out.symm⟩, hJx3⟩⟩
    ·obtain rfl : k = len := by omega
     gi_wp2
     go_end0
     exact ⟨⟨_, rfl⟩, .inl ⟨_, rfl, hJs⟩⟩
set_option maxHeartbeats 1000000 in
theorem sources_in (n : Nat) (mc cc : Array Value) (w : World) :
  CallsIn Fence.wide n Tryz.prog 122 #[.agg mc, .agg cc] w fun e w' => e = .returned (.func (.func 156) #[] #[.pointer (some ⟨w.heap.size, 0, none⟩), .pointer (some ⟨w.heap.size + 1, 0, none⟩)]) ∧ w' = (w.alloc (.cells mc 29)).alloc (.cells cc 32) := by
 refine callsIn_of_wp Tryz.func122 rfl trivial ?_ rfl
 simp only [Tryz.ntmps122, List.size_toArray, List.length_cons, List.length_nil, Nat.reduceAdd, Nat.reduceSub, Array.replicate_succ, Array.replicate_zero, List.push_toArray, List.append_toArray, List.nil_append, List.cons_append]
 gi_wp2
 go_ret
 exact ⟨rfl, rfl⟩
end
section
section
variable {F : Fence} {n : Nat} {P : Program} {ops : Array Oper} {Q : Exit → Act → World → Prop} {md : Region.Mode} {S : World → Prop}
structure Gives (P : Program) (ops : Array Oper) (S : World → Prop) (o : Oper) (v : Value) (a : Act) : Prop where
 gives : (Region.wanted o (yielded ops a.tmps) = true ∧ ∀ w, S w → (execOp a.eval o).run P w = .ok (.value v) w) ∨ (Region.wanted o (yielded ops a.tmps) = false ∧ v = undef)
 calm : ∀ w, o.about P w a.eval = none
theorem Gives.same {o : Oper} {v : Value} {a b : Act} (h : Gives P ops S o v a) (he : execOp b.eval o = execOp a.eval o) (hw : Region.wanted o (yielded ops b.tmps) = Region.wanted o (yielded ops a.tmps)) (hc : ∀ w, o.about P w b.eval = o.about P w a.eval) : Gives P ops S o v b :=
 ⟨by rw [he, hw]; exact h.gives, fun w => by rw [hc]; exact h.calm w⟩
theorem Gives.step {i : Nat} {o : Oper} {v : Value} {a : Act} (hro : F.round = none) (hi : ops[i]? = some o) (h : Gives P ops S o v a) {K : Act → World → Prop} {w : World} (hS : S w) (hK : K (a.put o.dst v) w) : wpOpIn F n P ops Q i K a w := by
 unfold wpOpIn
 simp only [hi]
 have hab : ∀ f, o.about P w a.eval = some f → F.fn f := fun f hf => by rw [h.calm w] at hf; cases hf
 rcases h.gives with ⟨hw, hv⟩ | ⟨hw, rfl⟩
 ·simp only [hw, if_true, Oper.wpIn, hro, Oper.semAt_none, hv w hS, Oper.uponIn]; exact ⟨hab, hK⟩
 ·simp only [hw, Bool.false_eq_true, if_false]; exact ⟨hab, hK⟩
theorem step_put {j : Nat} {oi oj : Oper} {v : Value} (hro : F.round = none) (hj : ops[j]? = some oj) (hap : oi.apart ops oj = true)
  (hsi : ∀ cs b, oi.op ≠ .select cs b) (hsj : ∀ cs b, oj.op ≠ .select cs b)
  (hQ : ∀ c a w, Q (.panic c) (a.put oi.dst v) w → Q (.panic c) a w) {K : Act → World → Prop} {a : Act} {w : World}
  (hy : Gives P ops S oi v a) (h : wpOpIn F n P ops Q j K (a.put oi.dst v) w) :
  wpOpIn F n P ops Q j (fun a' w' => Gives P ops S oi v a' ∧ K (a'.put oi.dst v) w') a w := by
 obtain ⟨h1, h2, h3⟩ := Oper.apart_spec hap
 have keep : ∀ b : Act, Gives P ops S oi v b → ∀ u, Gives P ops S oi v (b.put oj.dst u) := fun b hb u =>
  hb.same (execOp_put oi hsi b oj.dst u h3) (wanted_put oi b oj.dst u h3) (fun w => about_put oi w b oj.dst u h3)
 unfold wpOpIn at *
 simp only [hj] at *
 rw [wanted_put oj a oi.dst v h1, about_put oj w a oi.dst v h1] at h
 by_cases hw : Region.wanted oj (yielded ops a.tmps) = true
 ·rw [if_pos hw] at h ⊢
  unfold Oper.wpIn at *
  rw [about_put oj w a oi.dst v h1] at h
  obtain ⟨h0, h⟩ := h
  refine ⟨h0, ?_⟩
  rw [hro, Oper.semAt_none, execOp_put oj hsj a oi.dst v h1] at h
  rw [hro, Oper.semAt_none]
  cases hr : (execOp a.eval oj).run P w with
  | halt x w' =>
   rw [hr] at h
   cases x <;> simp only [Oper.uponIn] at h ⊢
   case panic u => exact hQ _ _ _ h
  | ok x w' =>
   rw [hr] at h
   cases x <;> simp only [Oper.uponIn] at h ⊢
   case value u => exact ⟨keep a hy u, by rw [← Act.put_comm a v u h2]; exact h⟩
   case skip => exact ⟨keep a hy _, by rw [← Act.put_comm a v undef h2]; exact h⟩
   case defer d => exact ⟨keep _ (hy.same (b := { a with defers := d :: a.defers }) rfl rfl (fun _ => rfl)) _, by rw [← Act.put_comm _ v undef h2, ← Act.put_defers]; exact h⟩
   case enter f args =>
    refine ⟨h.1, CallsIn.mono h.2 fun e w'' he => ?_⟩
    cases e with
    | returned u => exact ⟨keep a hy u, by rw [← Act.put_comm a v u h2]; exact he⟩
    | panicked c => exact hQ _ _ _ he
    | outgrown => exact he
   case row row args => exact ⟨h.1, RowsIn.mono h.2 fun u w'' he => ⟨keep a hy u, by rw [← Act.put_comm a v u h2]; exact he⟩⟩
   case round l f tmps assign body =>
    refine ⟨h.1, RoundIn.mono h.2 fun e w'' he => ?_⟩
    cases e with
    | returned u => exact ⟨keep a hy u, by rw [← Act.put_comm a v u h2]; exact he⟩
    | panicked c => exact hQ _ _ _ he
    | outgrown => exact he
 ·rw [if_neg hw] at h ⊢
  exact ⟨h.1, keep a hy _, by rw [← Act.put_comm a v undef h2]; exact h.2⟩
def Closed (md : Region.Mode) (ops : Array Oper) (listed : Array Bool) : Prop :=
 ∀ (k : Nat) (o : Oper), ops[k]? = some o → listed.getD k false = true → ∀ e ∈ o.after, Region.binds md e = true → listed.getD e.on false = true
theorem getD_keep {listed : Array Bool} {i k : Nat} (h : listed.getD k false = true) : (listed.setIfInBounds i true).getD k false = true := by
 by_cases e : i = k
 ·subst e
  rcases Nat.lt_or_ge i listed.size with h' | h'
  ·simp [h']
  ·simp [Array.getElem?_eq_none h'] at h
 ·rw [getD_set_ne false e]; exact h
theorem Closed.step {listed : Array Bool} {j : Nat} (h : Closed md ops listed) (hj : j ∈ Region.ready md ops listed) : Closed md ops (listed.setIfInBounds j true) := by
 intro k o ho hk e he hb
 by_cases hjk : j = k
 ·subst hjk
  obtain ⟨-, o', ho', hall⟩ := mem_ready.1 hj
  obtain rfl : o' = o := Option.some.inj (ho'.symm.trans ho)
  exact getD_keep (hall e he hb)
 ·rw [getD_set_ne false hjk] at hk
  exact getD_keep (h k o ho hk e he hb)
def waitsB (md : Region.Mode) (ops : Array Oper) (c : Nat) : Nat → List Nat → Bool
 | i, [] => i == c
 | i, k :: r => (match ops[k]? with
  | some o => o.after.any fun e => Region.binds md e && e.on == i
  | none => false) && waitsB md ops c k r
theorem waits_listed {listed : Array Bool} {c : Nat} (h : Closed md ops listed) (hc : listed.getD c false = true) : ∀ (ks : List Nat) (i : Nat), waitsB md ops c i ks = true → listed.getD i false = true := by
  intro ks
  induction ks with
  | nil => intro i hi; obtain rfl : i = c := by simpa [waitsB] using hi
           exact hc
  | cons k r ih =>
    intro i hi
    unfold waitsB at hi
    rw [Bool.and_eq_true] at hi
    have hk := ih k hi.2
    cases ho : ops[k]? with
    | none => rw [ho] at hi; exact absurd hi.1 (by simp)
    | some o =>
      rw [ho] at hi
      obtain ⟨e, he, hb⟩ := Array.any_eq_true'.1 hi.1
      rw [Bool.and_eq_true, beq_iff_eq] at hb
      rw [← hb.2]
      exact h k o ho hk e he hb.1
def closedB (md : Region.Mode) (ops : Array Oper) (listed : Array Bool) : Bool :=
 (List.range ops.size).all fun k => match ops[k]? with
  | some o => !listed.getD k false || o.after.all fun e => !Region.binds md e || listed.getD e.on false
  | none => true
theorem closed_of {listed : Array Bool} (h : closedB md ops listed = true) : Closed md ops listed := by
 intro k o ho hk e he hb
 have hlt : k < ops.size := (Array.getElem?_eq_some_iff.1 ho).1
 have h1 := List.all_eq_true.1 h k (List.mem_range.2 hlt)
 rw [ho] at h1
 dsimp only at h1
 rw [hk] at h1
 have h2 := Array.all_eq_true'.1 (by simpa using h1 : o.after.all (fun e => !Region.binds md e || listed.getD e.on false) = true) e he
 rw [hb] at h2
 simpa using h2
def anyW (F : Fence) (n : Nat) (P : Program) (md : Region.Mode) (ops : Array Oper) (Q : Exit → Act → World → Prop) (c : Nat) (W : World) : Nat → Array Bool → Act → World → Prop
 | 0, listed, a, w => Region.ready md ops listed = [] ∧ Q .normal a w
 | fuel + 1, listed, a, w => (Region.ready md ops listed = [] → Q .normal a w) ∧
  ∀ i ∈ Region.ready md ops listed, wpOpIn F n P ops Q i (fun b w' => ((listed.setIfInBounds i true).getD c false = true ∨ w' = W) ∧ anyW F n P md ops Q c W fuel (listed.setIfInBounds i true) b w') a w
theorem any_of_anyW {c : Nat} {W : World} : ∀ (fuel : Nat) (listed : Array Bool) (a : Act) (w : World), anyW F n P md ops Q c W fuel listed a w → wpAnyIn F n P md ops Q fuel listed a w
 | 0, _, _, _, h => h
 | fuel + 1, _, _, _, h => ⟨h.1, fun i hi => wpOpIn_mono (fun b w' hb => any_of_anyW fuel _ b w' hb.2) (h.2 i hi)⟩
theorem anyW_rest {c : Nat} {W : World} : ∀ (fuel : Nat) (listed : Array Bool) (a : Act) (w : World), listed.getD c false = true → wpAnyIn F n P md ops Q fuel listed a w → anyW F n P md ops Q c W fuel listed a w
 | 0, _, _, _, _, h => h
 | fuel + 1, _, _, _, hc, h => ⟨h.1, fun i hi => wpOpIn_mono (fun b w' hb => ⟨.inl (getD_keep hc), anyW_rest fuel _ b w' (getD_keep hc) hb⟩) (h.2 i hi)⟩
theorem anyW_first {c i : Nat} {W : World} {oi : Oper} {v : Value} (ks : List Nat) (hro : F.round = none) (hi : ops[i]? = some oi) (hsel : ∀ (j : Nat) (o : Oper) cs b, ops[j]? = some o → o.op ≠ .select cs b)
  (hks : waitsB md ops c i ks = true) (hic : i ≠ c) (hQ : ∀ c a w, Q (.panic c) (a.put oi.dst v) w → Q (.panic c) a w) :
  ∀ (fuel : Nat) (listed : Array Bool) (a : Act) (w : World), Closed md ops listed →
   (∀ j oj, ops[j]? = some oj → j ≠ i → listed.getD j true = false → (∀ e ∈ oj.after, Region.binds md e = true → e.on ≠ i) → oi.apart ops oj = true) →
   i ∈ Region.ready md ops listed → Gives P ops (fun w => w = W) oi v a → (listed.getD c false = true ∨ w = W) →
   anyW F n P md ops Q c W fuel (listed.setIfInBounds i true) (a.put oi.dst v) w → anyW F n P md ops Q c W (fuel + 1) listed a w := by
 have unl : ∀ listed : Array Bool, Closed md ops listed → i ∈ Region.ready md ops listed → ¬ listed.getD c false = true := fun listed hcl hr hc => by
  have h1 := waits_listed hcl hc ks i hks
  have h0 := (mem_ready.1 hr).1
  rcases Nat.lt_or_ge i listed.size with h' | h'
  ·simp [h'] at h0 h1; rw [h0] at h1; cases h1
  ·simp [Array.getElem?_eq_none h'] at h1
 intro fuel
 induction fuel with
 | zero =>
  intro listed a w hcl _ hr hy hw H
  have hW := hw.resolve_left (unl listed hcl hr)
  refine ⟨fun h0 => (by rw [h0] at hr; cases hr), fun j hj => ?_⟩
  by_cases e : j = i
  ·subst e; exact hy.step hro hi hW ⟨.inr hW, H⟩
  ·have h1 := ready_mono hj e
   rw [H.1] at h1
   cases h1
 | succ fuel ih =>
  intro listed a w hcl hap hr hy hw H
  have hW := hw.resolve_left (unl listed hcl hr)
  refine ⟨fun h0 => (by rw [h0] at hr; cases hr), fun j hj => ?_⟩
  by_cases e : j = i
  ·subst e; exact hy.step hro hi hW ⟨.inr hW, H⟩
  ·obtain ⟨hjun, oj, hoj, hall⟩ := mem_ready.1 hj
   have hiun := (mem_ready.1 hr).1
   have hnot : ∀ x ∈ oj.after, Region.binds md x = true → x.on ≠ i := fun x hx hb heq => by
    have h1 := hall x hx hb
    rw [heq] at h1
    rcases Nat.lt_or_ge i listed.size with h' | h'
    ·simp [h'] at hiun h1; rw [hiun] at h1; cases h1
    ·simp [Array.getElem?_eq_none h'] at h1
   have h2 := step_put hro hoj (hap j oj hoj e hjun hnot) (fun cs b => hsel i oi cs b hi) (fun cs b => hsel j oj cs b hoj) hQ hy (H.2 j (ready_mono hj e))
   refine wpOpIn_mono (fun b w' h3 => ?_) h2
   have h4 : (listed.setIfInBounds j true).getD c false = true ∨ w' = W := h3.2.1.imp (fun h => by
    rw [Array.setIfInBounds_comm _ _ (Ne.symm e), getD_set_ne false hic] at h; exact h) id
   refine ⟨h4, ih (listed.setIfInBounds j true) b w' (hcl.step hj) (fun k ok hk hki hun hno => hap k ok hk hki ?_ hno) (ready_mono hr (Ne.symm e)) h3.1 h4 ?_⟩
   ·by_cases hjk : j = k
    ·subst hjk; exact hjun
    ·rw [getD_set_ne true hjk] at hun; exact hun
   ·rw [Array.setIfInBounds_comm _ _ e]
    exact h3.2.2
theorem anyW_take {c i : Nat} {W : World} {oi : Oper} {v : Value} {fuel : Nat} {listed : Array Bool} {a : Act} {w : World} (ks : List Nat) (d : Option Tmp) (hro : F.round = none) (hi : ops[i]? = some oi) (hd : oi.dst = d)
  (hs : Region.noSelect ops = true) (hf : Region.free md ops listed i = true) (hr : (Region.ready md ops listed).contains i = true) (hks : (waitsB md ops c i ks && !(i == c)) = true) (hcl : closedB md ops listed = true)
  (hQ : ∀ c a w, Q (.panic c) (a.put oi.dst v) w → Q (.panic c) a w) (hy : Gives P ops (fun w => w = W) oi v a) (hw : listed.getD c false = true ∨ w = W)
  (h : anyW F n P md ops Q c W fuel (listed.setIfInBounds i true) (a.put d v) w) : anyW F n P md ops Q c W (fuel + 1) listed a w := by
 subst hd
 rw [Bool.and_eq_true] at hks
 exact anyW_first ks hro hi (Region.noSelect_spec hs) hks.1 (by simpa using hks.2) hQ fuel listed a w (closed_of hcl) (Region.free_spec hi hf) (by simpa using hr) hy hw h
theorem anyW_one {c : Nat} {W : World} {o : Oper} {fuel : Nat} {listed : Array Bool} {a : Act} {w : World} (hr : Region.ready md ops listed = [c]) (ho : ops[c]? = some o) (hin : (listed.setIfInBounds c true).getD c false = true)
  (h : ∀ K : Act → World → Prop, (∀ b w', wpAnyIn F n P md ops Q fuel (listed.setIfInBounds c true) b w' → K b w') → if Region.wanted o (yielded ops a.tmps) = true then Oper.wpIn F n P o a w K Q else (∀ f, o.about P w a.eval = some f → F.fn f) ∧ K (a.put o.dst undef) w) :
  anyW F n P md ops Q c W (fuel + 1) listed a w :=
 ⟨fun h0 => (by rw [hr] at h0; cases h0), fun j hj => by
  rw [hr] at hj
  obtain rfl : j = c := by simpa using hj
  exact wpOpIn_step ho fun K hK => h K fun b w' hb => hK b w' ⟨.inl hin, anyW_rest _ _ _ _ hin hb⟩⟩
theorem anyIn_takeD {i : Nat} {oi : Oper} {v : Value} {fuel : Nat} {listed : Array Bool} {a : Act} {w : World} (d : Option Tmp) (hro : F.round = none) (hi : ops[i]? = some oi) (hd : oi.dst = d)
  (hs : Region.noSelect ops = true) (hf : Region.free md ops listed i = true) (hr : (Region.ready md ops listed).contains i = true)
  (hQ : ∀ c a w, Q (.panic c) (a.put oi.dst v) w → Q (.panic c) a w) (hy : YieldsFenced P ops oi v a)
  (h : wpAnyIn F n P md ops Q fuel (listed.setIfInBounds i true) (a.put d v) w) : wpAnyIn F n P md ops Q (fuel + 1) listed a w := by
 subst hd; exact wpAnyIn_take hro hi hs hf hr hQ hy h
theorem region_W {id : Nat} {a : Act} {w : World} (c : Nat) (hm : P.follows .mixedOrders = true)
  (h : anyW F n P .any ops Q c w.drew ops.size (Array.replicate ops.size false) a w.drew) : (Code.region id ops true).wpIn F n P Q a w :=
 wpIn_region_any hm (any_of_anyW _ _ _ _ h)
end
end
end Go.Proofs.YthggkidiidnaoaaGreatDoor
