import Derived.Test.YthggkidiidnaoaaGreatWAA
import Derived.Test.YthggkidiidnaoaaGreatWAJ
import Derived.Test.YthggkidiidnaoaaGreatWAS
import Derived.Test.YthggkidiidnaoaaGreatWAT
import Derived.Test.YthggkidiidnaoaaGreatWAU
import Derived.Test.YthggkidiidnaoaaGreatWAX
import Derived.Deep.Upon
import Derived.Handy
import Derived.Outline
import Derived.Test.YthggkidiidnaoaaGreatRows
import Derived.KernelRfl
namespace Go.Proofs.YthggkidiidnaoaaGreat
set_option linter.unusedVariables false
set_option linter.unusedSimpArgs false
section
set_option autoImplicit false
open Go.RowKit
abbrev Gr := Option (Nat × Nat × List Value)
def gA (o : Gr) : Option Addr := match o with | none => none | some (b, _, _) => some ⟨b, 0, none⟩
def gC (o : Gr) : Nat := match o with | none => 0 | some (_, c, _) => c
def gt (o : Gr) (cs : List Value) : Boxes := match o with | none => [] | some (b, _, sp) => [(b, .cells (cs ++ sp))]
structure gok (o : Gr) (n z : Nat) (cs : List Value) : Prop where
 len : cs.length = n * z
 nil : o = none → n = 0
 own : ∀ b c sp, o = some (b, c, sp) → n ≤ c ∧ c ≤ 9223372036854775807 ∧ sp.length = (c - n) * z
theorem gok.none (z : Nat) : gok none 0 z [] := ⟨by simp, fun _ => rfl, fun _ _ _ h => by cases h⟩
theorem gok.some {o : Gr} {n z : Nat} {cs : List Value} (h : gok o n z cs) (h0 : 0 < n) : ∃ b c sp, o = some (b, c, sp) := by
 rcases o with _ | ⟨b, c, sp⟩
 ·have := h.nil rfl; omega
 ·exact ⟨b, c, sp, rfl⟩
theorem gok.le {o : Gr} {n z : Nat} {cs : List Value} (h : gok o n z cs) : n ≤ gC o ∧ gC o ≤ 9223372036854775807 := by
 rcases o with _ | ⟨b, c, sp⟩
 ·have := h.nil rfl; exact ⟨by simp [gC, this], by simp [gC]⟩
 ·have := h.own b c sp rfl; exact ⟨this.1, this.2.1⟩
inductive Tl : Boxes → Boxes → Boxes → Prop
 | z {G : Boxes} : Tl [] G G
 | s {x : Nat × Cont} {L1 G L : Boxes} (h : Tl L1 G L) : Tl (x :: L1) G (x :: L)
theorem Tl.s2 {x0 x1 : Nat × Cont} {A G L : Boxes} (h : Tl A G L) : Tl (x0 :: x1 :: A) G (x0 :: x1 :: L) := .s (.s (h))
theorem Tl.s3 {x0 x1 x2 : Nat × Cont} {A G L : Boxes} (h : Tl A G L) : Tl (x0 :: x1 :: x2 :: A) G (x0 :: x1 :: x2 :: L) := .s (.s (.s (h)))
theorem Tl.s4 {x0 x1 x2 x3 : Nat × Cont} {A G L : Boxes} (h : Tl A G L) : Tl (x0 :: x1 :: x2 :: x3 :: A) G (x0 :: x1 :: x2 :: x3 :: L) := .s (.s (.s (.s (h))))
theorem Tl.s5 {x0 x1 x2 x3 x4 : Nat × Cont} {A G L : Boxes} (h : Tl A G L) : Tl (x0 :: x1 :: x2 :: x3 :: x4 :: A) G (x0 :: x1 :: x2 :: x3 :: x4 :: L) := .s (.s (.s (.s (.s (h)))))
theorem Tl.s6 {x0 x1 x2 x3 x4 x5 : Nat × Cont} {A G L : Boxes} (h : Tl A G L) : Tl (x0 :: x1 :: x2 :: x3 :: x4 :: x5 :: A) G (x0 :: x1 :: x2 :: x3 :: x4 :: x5 :: L) := .s (.s (.s (.s (.s (.s (h))))))
theorem Tl.s7 {x0 x1 x2 x3 x4 x5 x6 : Nat × Cont} {A G L : Boxes} (h : Tl A G L) : Tl (x0 :: x1 :: x2 :: x3 :: x4 :: x5 :: x6 :: A) G (x0 :: x1 :: x2 :: x3 :: x4 :: x5 :: x6 :: L) := .s (.s (.s (.s (.s (.s (.s (h)))))))
theorem Tl.s8 {x0 x1 x2 x3 x4 x5 x6 x7 : Nat × Cont} {A G L : Boxes} (h : Tl A G L) : Tl (x0 :: x1 :: x2 :: x3 :: x4 :: x5 :: x6 :: x7 :: A) G (x0 :: x1 :: x2 :: x3 :: x4 :: x5 :: x6 :: x7 :: L) := .s (.s (.s (.s (.s (.s (.s (.s (h))))))))
theorem Tl.s9 {x0 x1 x2 x3 x4 x5 x6 x7 x8 : Nat × Cont} {A G L : Boxes} (h : Tl A G L) : Tl (x0 :: x1 :: x2 :: x3 :: x4 :: x5 :: x6 :: x7 :: x8 :: A) G (x0 :: x1 :: x2 :: x3 :: x4 :: x5 :: x6 :: x7 :: x8 :: L) := .s (.s (.s (.s (.s (.s (.s (.s (.s (h)))))))))
theorem Tl.s10 {x0 x1 x2 x3 x4 x5 x6 x7 x8 x9 : Nat × Cont} {A G L : Boxes} (h : Tl A G L) : Tl (x0 :: x1 :: x2 :: x3 :: x4 :: x5 :: x6 :: x7 :: x8 :: x9 :: A) G (x0 :: x1 :: x2 :: x3 :: x4 :: x5 :: x6 :: x7 :: x8 :: x9 :: L) := .s (.s (.s (.s (.s (.s (.s (.s (.s (.s (h))))))))))
theorem Tl.s11 {x0 x1 x2 x3 x4 x5 x6 x7 x8 x9 x10 : Nat × Cont} {A G L : Boxes} (h : Tl A G L) : Tl (x0 :: x1 :: x2 :: x3 :: x4 :: x5 :: x6 :: x7 :: x8 :: x9 :: x10 :: A) G (x0 :: x1 :: x2 :: x3 :: x4 :: x5 :: x6 :: x7 :: x8 :: x9 :: x10 :: L) := .s (.s (.s (.s (.s (.s (.s (.s (.s (.s (.s (h)))))))))))
theorem Tl.s12 {x0 x1 x2 x3 x4 x5 x6 x7 x8 x9 x10 x11 : Nat × Cont} {A G L : Boxes} (h : Tl A G L) : Tl (x0 :: x1 :: x2 :: x3 :: x4 :: x5 :: x6 :: x7 :: x8 :: x9 :: x10 :: x11 :: A) G (x0 :: x1 :: x2 :: x3 :: x4 :: x5 :: x6 :: x7 :: x8 :: x9 :: x10 :: x11 :: L) := .s (.s (.s (.s (.s (.s (.s (.s (.s (.s (.s (.s (h))))))))))))
theorem Tl.s13 {x0 x1 x2 x3 x4 x5 x6 x7 x8 x9 x10 x11 x12 : Nat × Cont} {A G L : Boxes} (h : Tl A G L) : Tl (x0 :: x1 :: x2 :: x3 :: x4 :: x5 :: x6 :: x7 :: x8 :: x9 :: x10 :: x11 :: x12 :: A) G (x0 :: x1 :: x2 :: x3 :: x4 :: x5 :: x6 :: x7 :: x8 :: x9 :: x10 :: x11 :: x12 :: L) := .s (.s (.s (.s (.s (.s (.s (.s (.s (.s (.s (.s (.s (h)))))))))))))
theorem Tl.s14 {x0 x1 x2 x3 x4 x5 x6 x7 x8 x9 x10 x11 x12 x13 : Nat × Cont} {A G L : Boxes} (h : Tl A G L) : Tl (x0 :: x1 :: x2 :: x3 :: x4 :: x5 :: x6 :: x7 :: x8 :: x9 :: x10 :: x11 :: x12 :: x13 :: A) G (x0 :: x1 :: x2 :: x3 :: x4 :: x5 :: x6 :: x7 :: x8 :: x9 :: x10 :: x11 :: x12 :: x13 :: L) := .s (.s (.s (.s (.s (.s (.s (.s (.s (.s (.s (.s (.s (.s (h))))))))))))))
theorem Tl.eq {L1 G L : Boxes} (h : Tl L1 G L) : L = L1 ++ G := by
 induction h with
 | z => rfl
 | s _ ih => rw [ih]; rfl
theorem apart_pair {L : Boxes} : (∀ (i j b : Nat) (cs cs' : Cont), L[i]? = some (b, cs) → L[j]? = some (b, cs') → i = j) ↔ L.Pairwise (fun x y => x.1 ≠ y.1) := by
 rw [List.pairwise_iff_getElem]
 constructor
 ·intro h i j hi hj hij he
  have h1 : L[i]? = some (L[i].1, L[i].2) := List.getElem?_eq_getElem hi
  have h2 : L[j]? = some (L[i].1, L[j].2) := by rw [List.getElem?_eq_getElem hj, he]
  have := h i j _ _ _ h1 h2
  omega
 ·intro h i j b cs cs' hi hj
  obtain ⟨li, ei⟩ := List.getElem?_eq_some_iff.1 hi
  obtain ⟨lj, ej⟩ := List.getElem?_eq_some_iff.1 hj
  rcases Nat.lt_trichotomy i j with g | g | g
  ·exact absurd (by rw [ei, ej]) (h i j li lj g)
  ·exact g
  ·exact absurd (by rw [ei, ej]) (h j i lj li g)
theorem Sta.perm {E : Cfg} {U : Snaps} {L L' : Boxes} {w : World} (h : Sta E U L w) (hp : L.Perm L') : Sta E U L' w := by
 have mem : ∀ (i b : Nat) (cs : Cont), L'[i]? = some (b, cs) → ∃ j, L[j]? = some (b, cs) := fun i b cs hi => by
  have := hp.mem_iff.2 (List.mem_of_getElem? hi)
  exact List.getElem?_of_mem this
 refine ⟨h.chg, fun i b cs hi => ?_, ?_, fun lo u hu => ?_⟩
 ·obtain ⟨j, hj⟩ := mem i b cs hi; exact h.box j b cs hj
 ·have h1 := apart_pair.1 h.apart
  exact apart_pair.2 ((hp.pairwise_iff (fun {x y} hxy => Ne.symm hxy)).1 h1)
 ·obtain ⟨a, b, c, d, e, f⟩ := h.snap lo u hu
  exact ⟨a, b, c, d, e, fun i b cs hi => by obtain ⟨j, hj⟩ := mem i b cs hi; exact f j b cs hj⟩
theorem Sta.front {E : Cfg} {U : Snaps} {L L1 G : Boxes} {w : World} (h : Sta E U L w) (hT : Tl L1 G L) : Sta E U L1 w := by
 have hL := hT.eq
 have up : ∀ (i b : Nat) (cs : Cont), L1[i]? = some (b, cs) → L[i]? = some (b, cs) := fun i b cs hi => by
  rw [hL, List.getElem?_append_left (List.getElem?_eq_some_iff.1 hi).1]; exact hi
 exact ⟨h.chg, fun i b cs hi => h.box i b cs (up i b cs hi), fun i j b cs cs' hi hj => h.apart i j b cs cs' (up i b cs hi) (up j b cs' hj), fun lo u hu => by
  obtain ⟨a, b, c, d, e, f⟩ := h.snap lo u hu
  exact ⟨a, b, c, d, e, fun i b cs hi => f i b cs (up i b cs hi)⟩⟩
theorem ac_drawF {P : Program} {e0 : Cfg} {U : Snaps} {l : Slots} {L L1 G : Boxes} {Q : Exit → Act → World → Prop} {id : Nat} {os : List Oper} (last : Nat) (hT : Tl L1 G L) (hm : P.follows .mixedOrders = true) (hok : lastOk os.toArray last = true) (k : AH P os.toArray Q U L1 last os.toArray.size (Array.replicate os.toArray.size false) e0 U l L) : AC P e0 U l L (.region id os.toArray true) Q :=
 fun a w hf hs => wp_region_any hm (wpAny_of_G _ _ _ _ (k hok (DrawnTo.start _ _) a _ hf hs.drew))
section
variable {P : Program} {e0 : Cfg} {U : Snaps} {l : Slots} {L : Boxes} {ops : Array Oper} {Q : Exit → Act → World → Prop} {rest : List Oper} {d : Nat} {v : Value}
variable {ty : TypeId} {pos : String} {af : Array Edge} {g : Option (Nat × Bool)} {dd : Option Nat}
structure Sor (e0 : Cfg) (U : Snaps) (L : Boxes) (z : Nat) (y : Value) (m : Nat) (vs : List Value) : Prop where
 len : vs.length = m * z
 one : vs.all (fun u => u.oneCell') = true
 val : ∃ (yA : Option Addr) (c : Nat), y = .slice yA m c ∧ ∀ w, Sta e0 U L w → 0 < m → ∃ A, yA = some A ∧ ∀ j u, vs[j]? = some u → w.cell? (A.add j) = some u
theorem Sor.box {z m c j bs : Nat} {vs : List Value} (hj : L[j]? = some (bs, .cells vs)) (hl : vs.length = m * z) (h1 : vs.all (fun u => u.oneCell') = true) : Sor e0 U L z (.slice (some ⟨bs, 0, none⟩) m c) m vs :=
 ⟨hl, h1, _, _, rfl, fun w hs _ => ⟨_, rfl, fun i u hu => by rw [addr_add, Nat.zero_add]; exact hs.cell hj hu⟩⟩
theorem Sor.list {α : Type} {z m c : Nat} {A : Option Addr} {enc : α → List Value} {zs : List α} (hlen : ∀ x, (enc x).length = z) (h1 : ∀ x, (enc x).all (fun u => u.oneCell') = true) (hz : zs.length = m) (h : ∀ w, Sta e0 U L w → IsT z enc w A m zs) :
  Sor e0 U L z (.slice A m c) m (zs.flatMap enc) := by
 refine ⟨?_, ?_, _, _, rfl, fun w hs h0 => ?_⟩
 ·subst hz
  clear h
  induction zs with
  | nil => simp
  | cons x r ih => rw [List.flatMap_cons, List.length_append, hlen, ih, List.length_cons, Nat.add_mul]; omega
 ·clear h hz
  induction zs with
  | nil => rfl
  | cons x r ih => rw [List.flatMap_cons, List.all_append, h1, ih]; rfl
 ·obtain ⟨b, o, e, h2, h3⟩ := (h w hs).2 h0
  refine ⟨_, e, fun j u hu => ?_⟩
  rw [addr_add]
  have key : ∀ (ys : List α) (k j : Nat) (u : Value), (ys.flatMap enc)[j]? = some u → (∀ i x, ys[i]? = some x → zs[k + i]? = some x) → w.cell? ⟨b, o + (k * z + j), none⟩ = some u := by
   intro ys
   induction ys with
   | nil => intro k j u hu _; simp at hu
   | cons y r ih =>
    intro k j u hu hk
    rw [List.flatMap_cons] at hu
    rcases Nat.lt_or_ge j z with g | g
    ·rw [List.getElem?_append_left (by rw [hlen]; exact g)] at hu
     have := h3 k y (hk 0 y rfl) j u hu
     rw [← Nat.add_assoc]; exact this
    ·rw [List.getElem?_append_right (by rw [hlen]; exact g), hlen] at hu
     have := ih (k + 1) (j - z) u hu (fun i x hx => by rw [Nat.add_assoc, Nat.add_comm 1 i]; exact hk (i + 1) x hx)
     rw [Nat.add_mul] at this
     rw [show k * z + j = k * z + 1 * z + (j - z) by omega]; exact this
  have := key zs 0 j u hu (fun i x hx => by simpa using hx)
  simpa using this
theorem al_grow {t e z bytes n m : Nat} {zv : Value} {o : Gr} {cs vs : List Value} {L1 G : Boxes} {y : Value} {ox oy : Operand} (hx : E l ox = some (.slice (gA o) n (gC o))) (hy : E l oy = some y) (hT : Tl L1 (gt o cs ++ G) L) (hg : gok o n z cs) (hs : Sor e0 U L z y m vs)
  (hu : P.underlying t = some (.slice e)) (hinfo : (P.info? e).map (fun i => (i.zero, i.size, i.bytes)) = some (some zv, z, bytes)) (hzv : zv.cells.size = z) (hm : n + m ≤ 1000000) (hb : bytes ≤ 10000)
  (hn : Nat.blt d e0.n = true) (hw : want ops l g = some true)
  (k : ∀ o', gok o' (n + m) z (cs ++ vs) → ∃ L', Tl L1 (gt o' (cs ++ vs) ++ G) L' ∧ AL P ops Q e0 U ((d, .slice (gA o') (n + m) (gC o')) :: l) L' rest) :
  AL P ops Q e0 U l L (⟨some d, .call ⟨.builtin .append, #[ox, oy], #[t, t]⟩, ty, pos, af, g⟩ :: rest) :=
 al_run2 (K := True) hw rfl hn (fun a w hf hst => by
  obtain ⟨hl, h1, yA, c, rfl, hc⟩ := hs
  rcases Nat.eq_zero_or_pos m with h0 | h0
  ·subst h0
   have hv : vs = [] := List.length_eq_zero_iff.1 (by simpa using hl)
   subst hv
   obtain ⟨ti, hti, hz, rfl, rfl⟩ := info_split hinfo
   have hsrc : Go.Src P ti.size t (.slice yA 0 c) 0 [] w := by
    cases yA with
    | none => exact Go.Src.ofNil w hu c
    | some A => exact Go.Src.ofSlice w hu A 0 c [] (by simp) (fun j u h => by simp at h) (fun u h => by cases h)
   have hr := run_append_nothing (P := P) w t t ty e ti hu hti (gA o) n (gC o) hg.le.1 _ hsrc
   obtain ⟨L', hL', hk⟩ := k o (by simpa using hg)
   have e1 : L' = L := by rw [hL'.eq, hT.eq]; simp
   exact ⟨_, w, U, L', ex_append (hf.ev hx) (hf.ev hy) hr, by rw [e1]; exact hst, hk⟩
  ·obtain ⟨A, rfl, hA⟩ := hc w hst h0
   rcases o with _ | ⟨b, cap, sp⟩
   ·have hn0 := hg.nil rfl
    subst hn0
    have hcs : cs = [] := List.length_eq_zero_iff.1 (by simpa using hg.len)
    subst hcs
    have eL : L = L1 ++ G := by rw [hT.eq]; simp [gt]
    obtain ⟨b', cap', sp', w', hr, h2, h3, h4, hst'⟩ := run_appendNil (A := A) (c := c) ty hu hinfo hzv hst hl hA h0 om9 hb
    obtain ⟨L', hL', hk⟩ := k (some (b', cap', sp')) ⟨by simpa using hl, fun e => by (cases e), fun b c sp e => by cases e; rw [Nat.zero_add]; exact ⟨h2, h3, h4⟩⟩
    have e1 : ((0 : Nat) + m) = m := Nat.zero_add m
    rw [e1] at hk
    refine ⟨_, w', U, L', ex_append (hf.ev hx) (hf.ev hy) hr, ?_, hk⟩
    rw [hL'.eq]
    refine hst'.perm ?_
    rw [eL]
    show ((b', Cont.cells (vs ++ sp')) :: (L1 ++ G)).Perm (L1 ++ ((b', Cont.cells ([] ++ vs ++ sp')) :: G))
    rw [List.nil_append]
    exact List.perm_middle.symm
   ·obtain ⟨g1, g2, g3⟩ := hg.own b cap sp rfl
    have hL := hT.eq
    have hi : L[L1.length]? = some (b, .cells (cs ++ sp)) := by rw [hL]; simp [gt]
    obtain ⟨b', cap', sp', w', hr, h2, h3, h4, hst'⟩ := run_appendBox (A := A) (c := c) ty hu hinfo hzv hst hi hg.len g3 g1 g2 hl hA (by simpa using h1) hm hb
    obtain ⟨L', hL', hk⟩ := k (some (b', cap', sp')) ⟨by rw [List.length_append, hg.len, hl, Nat.add_mul], fun e => by (cases e), fun b c sp e => by cases e; exact ⟨h2, h3, h4⟩⟩
    refine ⟨_, w', U, L', ex_append (hf.ev hx) (hf.ev hy) hr, ?_, hk⟩
    rw [hL'.eq]
    have e2 : L.set L1.length (b', .cells ((cs ++ vs) ++ sp')) = L1 ++ (gt (some (b', cap', sp')) (cs ++ vs) ++ G) := by
     rw [hL, List.set_append_right _ _ (Nat.le_refl _)]; simp [gt]
    rw [← e2]; exact hst')
theorem al_appendS {t e z bytes m nn cap i b : Nat} {zv : Value} {vs xs sp : List Value} {y : Value} {ox oy : Operand} (hx : E l ox = some (.slice (some ⟨b, 0, none⟩) nn cap)) (hi : L[i]? = some (b, .cells (xs ++ sp))) (hxs : xs.length = nn * z) (hsp : sp.length = (cap - nn) * z) (hcap : nn ≤ cap) (hcm : cap ≤ 9223372036854775807)
  (hy : E l oy = some y) (hs : Sor e0 U L z y m vs)
  (hu : P.underlying t = some (.slice e)) (hinfo : (P.info? e).map (fun i => (i.zero, i.size, i.bytes)) = some (some zv, z, bytes)) (hzv : zv.cells.size = z) (hm : nn + m ≤ 1000000) (hb : bytes ≤ 10000)
  (hn : Nat.blt d e0.n = true) (hw : want ops l g = some true)
  (k : ∀ b' cap' sp', nn + m ≤ cap' → cap' ≤ 9223372036854775807 → sp'.length = (cap' - (nn + m)) * z → ∃ L', SetAt i (b', .cells ((xs ++ vs) ++ sp')) L L' ∧ AL P ops Q e0 U ((d, .slice (some ⟨b', 0, none⟩) (nn + m) cap') :: l) L' rest) :
  AL P ops Q e0 U l L (⟨some d, .call ⟨.builtin .append, #[ox, oy], #[t, t]⟩, ty, pos, af, g⟩ :: rest) :=
 al_run2 (K := True) hw rfl hn (fun a w hf hst => by
  obtain ⟨hl, h1, yA, c, rfl, hc⟩ := hs
  rcases Nat.eq_zero_or_pos m with h0 | h0
  ·subst h0
   have hv : vs = [] := List.length_eq_zero_iff.1 (by simpa using hl)
   subst hv
   obtain ⟨ti, hti, hz, rfl, rfl⟩ := info_split hinfo
   have hsrc : Go.Src P ti.size t (.slice yA 0 c) 0 [] w := by
    cases yA with
    | none => exact Go.Src.ofNil w hu c
    | some A => exact Go.Src.ofSlice w hu A 0 c [] (by simp) (fun j u h => by simp at h) (fun u h => by cases h)
   have hr := run_append_nothing (P := P) w t t ty e ti hu hti (some ⟨b, 0, none⟩) nn cap hcap _ hsrc
   obtain ⟨L', hL', hk⟩ := k b cap sp hcap hcm hsp
   have e1 : L' = L := by
    rw [hL'.eq, List.append_nil]
    apply List.ext_getElem?
    intro j
    by_cases hj : i = j
    ·subst hj
     rw [List.getElem?_set_self (List.getElem?_eq_some_iff.1 hi).1, hi]
    ·rw [List.getElem?_set_ne hj]
   exact ⟨_, w, U, L', ex_append (hf.ev hx) (hf.ev hy) hr, by rw [e1]; exact hst, hk⟩
  ·obtain ⟨A, rfl, hA⟩ := hc w hst h0
   obtain ⟨b', cap', sp', w', hr, h2, h3, h4, hst'⟩ := run_appendBox (A := A) (c := c) ty hu hinfo hzv hst hi hxs hsp hcap hcm hl hA (by simpa using h1) hm hb
   obtain ⟨L', hL, hk⟩ := k b' cap' sp' h2 h3 h4
   exact ⟨_, w', U, L', ex_append (hf.ev hx) (hf.ev hy) hr, by rw [hL.eq]; exact hst', hk⟩)
theorem aq_sub {V : Snaps} {S : Slots} {M : Boxes} {X : Act → World → Prop} (h : AQ e0 V S M X) (hl : AllLook l S) (hL : ∀ w, Sta e0 U L w → Sta e0 V M w) : AQ e0 U l L X := fun a w hf hs => h a w (hf.sub hl.sub) (hL w hs)
theorem ac_cut {β : Type} {c1 c2 : Code} (F : β → Prop) (S : β → Slots) (V : β → Snaps) (M : β → Boxes → Boxes)
  (h1 : ∀ X : Act → World → Prop, (∀ y, F y → AQ e0 (V y) (S y) (M y L) X) → AC P e0 U l L c1 (Exit.then X Q)) (h2 : ∀ y, F y → AC P e0 (V y) (S y) (M y L) c2 Q) : AC P e0 U l L (.seq c1 c2) Q := ac_seq (h1 _ h2)
theorem Sta.firstSnaps {w : World} (h : Sta e0 U L w) (k : Nat) {V : Snaps} (hV : U.take k = V) : Sta e0 V L w :=
 ⟨h.chg, h.box, h.apart, fun lo u hu => h.snap lo u (by subst hV; exact List.mem_of_mem_take hu)⟩
end
structure NewT {α : Type} (z : Nat) (enc : α → List Value) (B : Nat) (w : World) (A : Option Addr) (n c : Nat) (zs : List α) : Prop where
 isT : IsT z enc w A n zs
 new : ∀ b off, A = some ⟨b, off, none⟩ → B ≤ b
 le : n ≤ c ∧ c ≤ 9223372036854775807
theorem Sta.grown {α : Type} {z n N : Nat} {D : List Deferred} {enc : α → List Value} (hlen : ∀ x, (enc x).length = z) {w0 w : World} {U : Snaps} {L : Boxes} {o : Gr} {cs : List Value} {zs : List α} (h : Sta ⟨N, D, w0, []⟩ U L w) (hT : ∀ x ∈ gt o cs, x ∈ L) (hg : gok o n z cs)
  (hz : zs.flatMap enc = cs) (hn : zs.length = n) : NewT z enc w0.heap.size w (gA o) n (gC o) zs := by
 refine ⟨?_, fun b off e => ?_, hg.le⟩
 ·rcases o with _ | ⟨b, c, sp⟩
  ·have := hg.nil rfl
   exact ⟨hn, fun h0 => by omega⟩
  ·obtain ⟨i, hi⟩ := List.getElem?_of_mem (hT (b, .cells (cs ++ sp)) (by simp [gt]))
   exact isT_box hlen (h.at _ hi) hz hn
 ·rcases o with _ | ⟨b', c, sp⟩
  ·cases e
  ·obtain ⟨i, hi⟩ := List.getElem?_of_mem (hT (b', .cells (cs ++ sp)) (by simp [gt]))
   have := (h.box _ _ _ hi).1
   cases e
   rcases this with g | g
   ·exact g
   ·cases g
theorem flat_int : ∀ l : List Int, l.flatMap intCells = l.map (Value.int .i64)
 | [] => rfl
 | x :: l => by rw [List.flatMap_cons, flat_int l]; rfl
theorem Sta.newT {α : Type} {z n c : Nat} {enc : α → List Value} {E : Cfg} {U : Snaps} {L : Boxes} {w u : World} {lo : Nat} {A : Option Addr} {zs : List α} (h : Sta E U L w) (hu : (lo, u) ∈ U) (hN : NewT z enc lo u A n c zs) : IsT z enc w A n zs :=
 h.isT hu hN.isT fun b o e => Or.inl (hN.new b o e)
end
section
set_option autoImplicit false
open Go.RowKit
section
variable {P : Program} {e0 : Cfg} {U : Snaps} {l : Slots} {L : Boxes} {ops : Array Oper} {Q : Exit → Act → World → Prop} {rest : List Oper} {d : Nat} {v : Value}
variable {ty : TypeId} {pos : String} {af : Array Edge} {g : Option (Nat × Bool)} {dd : Option Nat}
theorem ac_drawK {L0 : Boxes} {id : Nat} {os : List Oper} (k last : Nat) (hL : L.drop k = L0) (hm : P.follows .mixedOrders = true) (hok : lastOk os.toArray last = true) (h : AH P os.toArray Q U L0 last os.toArray.size (Array.replicate os.toArray.size false) e0 U l L) : AC P e0 U l L (.region id os.toArray true) Q :=
 fun a w hf hs => wp_region_any hm (wpAny_of_G _ _ _ _ (h hok (DrawnTo.start _ _) a _ hf hs.drew))
theorem run_equalIn_nilS (d : Nat) {t e n c : Nat} (h : P.underlying t = some (.slice e)) (w : World) : (Op.equalIn (d + 1) t (.slice none n c) (.slice none 0 0)).run P w = .ok true w := by simp [Op.equalIn, run_underlying h]
theorem run_equalIn_someS (d : Nat) {t e n c : Nat} {A : Addr} (h : P.underlying t = some (.slice e)) (w : World) : (Op.equalIn (d + 1) t (.slice (some A) n c) (.slice none 0 0)).run P w = .ok false w := by simp [Op.equalIn, run_underlying h]
theorem run_equal_nilS {t e n c : Nat} (h : P.underlying t = some (.slice e)) (w : World) : (Op.equal t (.slice none n c) (.slice none 0 0)).run P w = .ok true w := run_equalIn_nilS 9999 h w
theorem run_equal_someS {t e n c : Nat} {A : Addr} (h : P.underlying t = some (.slice e)) (w : World) : (Op.equal t (.slice (some A) n c) (.slice none 0 0)).run P w = .ok false w := run_equalIn_someS 9999 h w
theorem bin_eql_S (t : TypeId) (A : Option Addr) (n c : Nat) : binOp .eql t (.slice A n c) (.slice none 0 0) = (do pure (.bool (← Op.equal t (.slice A n c) (.slice none 0 0))) : Sem Value) := rfl
theorem q_eqlNil0 {xt yt e n c : Nat} {ox : Operand} (hx : E l ox = some (.slice none n c)) (hu : P.underlying xt = some (.slice e)) : Q1 P e0 U l L ⟨dd, .binOp .eql xt ox (.const (.slice none 0 0)) yt, ty, pos, af, g⟩ (.bool true) :=
 q_bin hx rfl (fun w => by simp [eqGuard]) (fun w => by rw [bin_eql_S]; simp [run_equal_nilS hu])
theorem q_eqlNil1 {xt yt e n c : Nat} {A : Addr} {ox : Operand} (hx : E l ox = some (.slice (some A) n c)) (hu : P.underlying xt = some (.slice e)) : Q1 P e0 U l L ⟨dd, .binOp .eql xt ox (.const (.slice none 0 0)) yt, ty, pos, af, g⟩ (.bool false) :=
 q_bin hx rfl (fun w => by simp [eqGuard]) (fun w => by rw [bin_eql_S]; simp [run_equal_someS hu])
theorem IsT.piece {α : Type} {z : Nat} {enc : α → List Value} {w : World} {len b o : Nat} {zs : List α} (h : IsT z enc w (some ⟨b, o, none⟩) len zs) {lo n : Nat} (hl : lo + n ≤ len) : IsT z enc w (some ⟨b, o + lo * z, none⟩) n ((zs.drop lo).take n) := by
 refine ⟨by rw [List.length_take, List.length_drop, h.1]; omega, fun h0 => ?_⟩
 obtain ⟨b', o', e, h1, h2⟩ := h.2 om9
 cases e
 refine ⟨_, _, rfl, h1, fun j x hx i v hv => ?_⟩
 have hj : j < n := by
  have := (List.getElem?_eq_some_iff.1 hx).1
  rw [List.length_take] at this; omega
 rw [List.getElem?_take_of_lt hj, List.getElem?_drop] at hx
 have := h2 (lo + j) x hx i v hv
 rw [Nat.add_mul] at this
 rw [← this]; congr 2; omega
theorem SetAt.ofSet {α : Type} : ∀ {n : Nat} {x : α} {l : List α}, n < l.length → SetAt n x l (l.set n x)
 | 0, x, y :: l, _ => .z
 | n + 1, x, y :: l, h => .s (SetAt.ofSet (by simpa using h))
end
theorem Sta.cellOf {E : Cfg} {U : Snaps} {L : Boxes} {w u : World} {lo b k : Nat} {v : Value} (h : Sta E U L w) (hu : (lo, u) ∈ U) (hlo : lo ≤ b) (hlt : b < u.heap.size) (hc : u.cell? ⟨b, k, none⟩ = some v) : w.cell? ⟨b, k, none⟩ = some v := by
 obtain ⟨s0, s1, s2, s3, s4, -⟩ := h.snap _ _ hu
 rw [World.cell?_of_block (w := u) (w' := w) (a := ⟨b, _, none⟩) (s3 b hlo hlt)]; exact hc
end
section
open Go.RowKit Go.Shelf
def fieldP (p : Int × Int) (S : List Src) : Int × Int := (fluxP (p.1, p.2 - 1) S - fluxP (p.1, p.2 + 1) S, fluxP (p.1 + 1, p.2) S - fluxP (p.1 - 1, p.2) S)
set_option maxRecDepth 100000 in
set_option maxHeartbeats 16000000 in
theorem fieldAt_any (R : MachR) (M : MachD) (Qr : CurR) (Cd : CurD) (p0 p1 : Int) (w : World) (hM : IsM w R M) (hC : IsC w Qr Cd) (hv : Fit2 M Cd) (g0 : -1000000 ≤ p0) (g1 : p0 ≤ 1000000) (g2 : -1000000 ≤ p1) (g3 : p1 ≤ 1000000) :
  Calls Tryz.prog 28 #[.agg (machCells R M), Qr.v, .agg #[.int .i64 p0, .int .i64 p1]] w (Ret (.tuple #[.int .i64 (fieldP (p0, p1) (srcM M Cd)).1, .int .i64 (fieldP (p0, p1) (srcM M Cd)).2]) w) := by
 have HF := Lib.hid (fun a b W (hb : Below w.heap.size w W) => fluxAt_any R M Qr Cd a b W (hM.below hb) (hC.below hb) hv)
 have HB := Lib.hid (fun p => (small_of hv).bd p)
 unfold fieldP
 dsimp only
 clear hM hC hv
 generalize srcM M Cd = S at *
 obtain ⟨A, B, Cl, D, la, ca, lb, cb, lc, cl, ld, cd⟩ := R
 obtain ⟨name, coils, shells, limits, ⟨r, z, nr, nz, step⟩, sensors⟩ := M
 obtain ⟨A1, B1, C1, na, qa, nb, qb, nc, qc⟩ := Qr
 have b1 := HB.out (p0, p1 - 1)
 have b2 := HB.out (p0, p1 + 1)
 have b3 := HB.out (p0 + 1, p1)
 have b4 := HB.out (p0 - 1, p1)
 have H1 := Lib.hid (show ∀ W, Below w.heap.size w W → Calls Tryz.prog 55 #[.agg #[.string name, .slice A la ca, .slice B lb cb, .slice Cl lc cl, .int .i64 r, .int .i64 z, .int .i64 nr, .int .i64 nz, .int .i64 step, .slice D ld cd], .agg #[.slice A1 na qa, .slice B1 nb qb, .slice C1 nc qc], .agg #[.int .i64 p0, .int .i64 (p1 - 1)]] W (Ret (.int .i64 (fluxP (p0, p1 - 1) S)) W) from fun W hb => HF.out _ _ W hb)
 have H2 := Lib.hid (show ∀ W, Below w.heap.size w W → Calls Tryz.prog 55 #[.agg #[.string name, .slice A la ca, .slice B lb cb, .slice Cl lc cl, .int .i64 r, .int .i64 z, .int .i64 nr, .int .i64 nz, .int .i64 step, .slice D ld cd], .agg #[.slice A1 na qa, .slice B1 nb qb, .slice C1 nc qc], .agg #[.int .i64 p0, .int .i64 (p1 + 1)]] W (Ret (.int .i64 (fluxP (p0, p1 + 1) S)) W) from fun W hb => HF.out _ _ W hb)
 have H3 := Lib.hid (show ∀ W, Below w.heap.size w W → Calls Tryz.prog 55 #[.agg #[.string name, .slice A la ca, .slice B lb cb, .slice Cl lc cl, .int .i64 r, .int .i64 z, .int .i64 nr, .int .i64 nz, .int .i64 step, .slice D ld cd], .agg #[.slice A1 na qa, .slice B1 nb qb, .slice C1 nc qc], .agg #[.int .i64 (p0 + 1), .int .i64 p1]] W (Ret (.int .i64 (fluxP (p0 + 1, p1) S)) W) from fun W hb => HF.out _ _ W hb)
 have H4 := Lib.hid (show ∀ W, Below w.heap.size w W → Calls Tryz.prog 55 #[.agg #[.string name, .slice A la ca, .slice B lb cb, .slice Cl lc cl, .int .i64 r, .int .i64 z, .int .i64 nr, .int .i64 nz, .int .i64 step, .slice D ld cd], .agg #[.slice A1 na qa, .slice B1 nb qb, .slice C1 nc qc], .agg #[.int .i64 (p0 - 1), .int .i64 p1]] W (Ret (.int .i64 (fluxP (p0 - 1, p1) S)) W) from fun W hb => HF.out _ _ W hb)
 generalize fluxP (p0, p1 - 1) S = f1 at *
 generalize fluxP (p0, p1 + 1) S = f2 at *
 generalize fluxP (p0 + 1, p1) S = f3 at *
 generalize fluxP (p0 - 1, p1) S = f4 at *
 clear HF HB
 show Calls Tryz.prog 28 #[.agg #[.string name, .slice A la ca, .slice B lb cb, .slice Cl lc cl, .int .i64 r, .int .i64 z, .int .i64 nr, .int .i64 nz, .int .i64 step, .slice D ld cd], .agg #[.slice A1 na qa, .slice B1 nb qb, .slice C1 nc qc], .agg #[.int .i64 p0, .int .i64 p1]] w _
 go_enter Tryz.func28, Tryz.ntmps28
 go_upto_region 1 with (fail)
 have m0 : (((w.alloc (.cells #[.string name, .slice A la ca, .slice B lb cb, .slice Cl lc cl, .int .i64 r, .int .i64 z, .int .i64 nr, .int .i64 nz, .int .i64 step, .slice D ld cd] 29)).alloc (.cells #[.slice A1 na qa, .slice B1 nb qb, .slice C1 nc qc] 32)).alloc (.cells #[.int .i64 p0, .int .i64 p1] 53)).cell? ⟨w.heap.size, 0, none⟩ = some (.string name) := by go_simp
 have m1 : (((w.alloc (.cells #[.string name, .slice A la ca, .slice B lb cb, .slice Cl lc cl, .int .i64 r, .int .i64 z, .int .i64 nr, .int .i64 nz, .int .i64 step, .slice D ld cd] 29)).alloc (.cells #[.slice A1 na qa, .slice B1 nb qb, .slice C1 nc qc] 32)).alloc (.cells #[.int .i64 p0, .int .i64 p1] 53)).cell? ⟨w.heap.size, 1, none⟩ = some (.slice A la ca) := by go_simp
 have m2 : (((w.alloc (.cells #[.string name, .slice A la ca, .slice B lb cb, .slice Cl lc cl, .int .i64 r, .int .i64 z, .int .i64 nr, .int .i64 nz, .int .i64 step, .slice D ld cd] 29)).alloc (.cells #[.slice A1 na qa, .slice B1 nb qb, .slice C1 nc qc] 32)).alloc (.cells #[.int .i64 p0, .int .i64 p1] 53)).cell? ⟨w.heap.size, 2, none⟩ = some (.slice B lb cb) := by go_simp
 have m3 : (((w.alloc (.cells #[.string name, .slice A la ca, .slice B lb cb, .slice Cl lc cl, .int .i64 r, .int .i64 z, .int .i64 nr, .int .i64 nz, .int .i64 step, .slice D ld cd] 29)).alloc (.cells #[.slice A1 na qa, .slice B1 nb qb, .slice C1 nc qc] 32)).alloc (.cells #[.int .i64 p0, .int .i64 p1] 53)).cell? ⟨w.heap.size, 3, none⟩ = some (.slice Cl lc cl) := by go_simp
 have m4 : (((w.alloc (.cells #[.string name, .slice A la ca, .slice B lb cb, .slice Cl lc cl, .int .i64 r, .int .i64 z, .int .i64 nr, .int .i64 nz, .int .i64 step, .slice D ld cd] 29)).alloc (.cells #[.slice A1 na qa, .slice B1 nb qb, .slice C1 nc qc] 32)).alloc (.cells #[.int .i64 p0, .int .i64 p1] 53)).cell? ⟨w.heap.size, 4, none⟩ = some (.int .i64 r) := by go_simp
 have m5 : (((w.alloc (.cells #[.string name, .slice A la ca, .slice B lb cb, .slice Cl lc cl, .int .i64 r, .int .i64 z, .int .i64 nr, .int .i64 nz, .int .i64 step, .slice D ld cd] 29)).alloc (.cells #[.slice A1 na qa, .slice B1 nb qb, .slice C1 nc qc] 32)).alloc (.cells #[.int .i64 p0, .int .i64 p1] 53)).cell? ⟨w.heap.size, 5, none⟩ = some (.int .i64 z) := by go_simp
 have m6 : (((w.alloc (.cells #[.string name, .slice A la ca, .slice B lb cb, .slice Cl lc cl, .int .i64 r, .int .i64 z, .int .i64 nr, .int .i64 nz, .int .i64 step, .slice D ld cd] 29)).alloc (.cells #[.slice A1 na qa, .slice B1 nb qb, .slice C1 nc qc] 32)).alloc (.cells #[.int .i64 p0, .int .i64 p1] 53)).cell? ⟨w.heap.size, 6, none⟩ = some (.int .i64 nr) := by go_simp
 have m7 : (((w.alloc (.cells #[.string name, .slice A la ca, .slice B lb cb, .slice Cl lc cl, .int .i64 r, .int .i64 z, .int .i64 nr, .int .i64 nz, .int .i64 step, .slice D ld cd] 29)).alloc (.cells #[.slice A1 na qa, .slice B1 nb qb, .slice C1 nc qc] 32)).alloc (.cells #[.int .i64 p0, .int .i64 p1] 53)).cell? ⟨w.heap.size, 7, none⟩ = some (.int .i64 nz) := by go_simp
 have m8 : (((w.alloc (.cells #[.string name, .slice A la ca, .slice B lb cb, .slice Cl lc cl, .int .i64 r, .int .i64 z, .int .i64 nr, .int .i64 nz, .int .i64 step, .slice D ld cd] 29)).alloc (.cells #[.slice A1 na qa, .slice B1 nb qb, .slice C1 nc qc] 32)).alloc (.cells #[.int .i64 p0, .int .i64 p1] 53)).cell? ⟨w.heap.size, 8, none⟩ = some (.int .i64 step) := by go_simp
 have m9 : (((w.alloc (.cells #[.string name, .slice A la ca, .slice B lb cb, .slice Cl lc cl, .int .i64 r, .int .i64 z, .int .i64 nr, .int .i64 nz, .int .i64 step, .slice D ld cd] 29)).alloc (.cells #[.slice A1 na qa, .slice B1 nb qb, .slice C1 nc qc] 32)).alloc (.cells #[.int .i64 p0, .int .i64 p1] 53)).cell? ⟨w.heap.size, 9, none⟩ = some (.slice D ld cd) := by go_simp
 have c0 : (((w.alloc (.cells #[.string name, .slice A la ca, .slice B lb cb, .slice Cl lc cl, .int .i64 r, .int .i64 z, .int .i64 nr, .int .i64 nz, .int .i64 step, .slice D ld cd] 29)).alloc (.cells #[.slice A1 na qa, .slice B1 nb qb, .slice C1 nc qc] 32)).alloc (.cells #[.int .i64 p0, .int .i64 p1] 53)).cell? ⟨w.heap.size + 1, 0, none⟩ = some (.slice A1 na qa) := by go_simp
 have c1 : (((w.alloc (.cells #[.string name, .slice A la ca, .slice B lb cb, .slice Cl lc cl, .int .i64 r, .int .i64 z, .int .i64 nr, .int .i64 nz, .int .i64 step, .slice D ld cd] 29)).alloc (.cells #[.slice A1 na qa, .slice B1 nb qb, .slice C1 nc qc] 32)).alloc (.cells #[.int .i64 p0, .int .i64 p1] 53)).cell? ⟨w.heap.size + 1, 1, none⟩ = some (.slice B1 nb qb) := by go_simp
 have c2 : (((w.alloc (.cells #[.string name, .slice A la ca, .slice B lb cb, .slice Cl lc cl, .int .i64 r, .int .i64 z, .int .i64 nr, .int .i64 nz, .int .i64 step, .slice D ld cd] 29)).alloc (.cells #[.slice A1 na qa, .slice B1 nb qb, .slice C1 nc qc] 32)).alloc (.cells #[.int .i64 p0, .int .i64 p1] 53)).cell? ⟨w.heap.size + 1, 2, none⟩ = some (.slice C1 nc qc) := by go_simp
 have p0c : (((w.alloc (.cells #[.string name, .slice A la ca, .slice B lb cb, .slice Cl lc cl, .int .i64 r, .int .i64 z, .int .i64 nr, .int .i64 nz, .int .i64 step, .slice D ld cd] 29)).alloc (.cells #[.slice A1 na qa, .slice B1 nb qb, .slice C1 nc qc] 32)).alloc (.cells #[.int .i64 p0, .int .i64 p1] 53)).cell? ⟨w.heap.size + 1 + 1, 0, none⟩ = some (.int .i64 p0) := by go_simp
 have p1c : (((w.alloc (.cells #[.string name, .slice A la ca, .slice B lb cb, .slice Cl lc cl, .int .i64 r, .int .i64 z, .int .i64 nr, .int .i64 nz, .int .i64 step, .slice D ld cd] 29)).alloc (.cells #[.slice A1 na qa, .slice B1 nb qb, .slice C1 nc qc] 32)).alloc (.cells #[.int .i64 p0, .int .i64 p1] 53)).cell? ⟨w.heap.size + 1 + 1, 1, none⟩ = some (.int .i64 p1) := by go_simp
 have hz : w.heap.size + 1 + 1 < (((w.alloc (.cells #[.string name, .slice A la ca, .slice B lb cb, .slice Cl lc cl, .int .i64 r, .int .i64 z, .int .i64 nr, .int .i64 nz, .int .i64 step, .slice D ld cd] 29)).alloc (.cells #[.slice A1 na qa, .slice B1 nb qb, .slice C1 nc qc] 32)).alloc (.cells #[.int .i64 p0, .int .i64 p1] 53)).heap.size := by simp
 have hB : Below w.heap.size w (((w.alloc (.cells #[.string name, .slice A la ca, .slice B lb cb, .slice Cl lc cl, .int .i64 r, .int .i64 z, .int .i64 nr, .int .i64 nz, .int .i64 step, .slice D ld cd] 29)).alloc (.cells #[.slice A1 na qa, .slice B1 nb qb, .slice C1 nc qc] 32)).alloc (.cells #[.int .i64 p0, .int .i64 p1] 53)) := by (repeat first | with_reducible exact Below.refl _ _ | (with_reducible refine Below.alloc ?_ ?_ _; rotate_left; exact (by first | omega | (simp; done) | (simp; omega))))
 obtain ⟨W0, hW0⟩ : ∃ W, ((w.alloc (.cells #[.string name, .slice A la ca, .slice B lb cb, .slice Cl lc cl, .int .i64 r, .int .i64 z, .int .i64 nr, .int .i64 nz, .int .i64 step, .slice D ld cd] 29)).alloc (.cells #[.slice A1 na qa, .slice B1 nb qb, .slice C1 nc qc] 32)).alloc (.cells #[.int .i64 p0, .int .i64 p1] 53) = W := ⟨_, rfl⟩
 rw [hW0] at hz hB m0 m1 m2 m3 m4 m5 m6 m7 m8 m9 c0 c1 c2 p0c p1c ⊢
 clear hW0
 have FM := Lib.hid (BoxL.mk10 (W := W0) om9 m0 m1 m2 m3 m4 m5 m6 m7 m8 m9)
 have FC := Lib.hid (BoxL.mk3 (W := W0) om9 c0 c1 c2)
 have FP := Lib.hid (BoxL.mk2 (W := W0) hz p0c p1c)
 have HZ := Lib.hid hz
 clear m0 m1 m2 m3 m4 m5 m6 m7 m8 m9 c0 c1 c2
 go_cut [8, 9] (fun s t wx => ∃ y x : Nat, s = .pointer (some ⟨y, 0, none⟩) ∧ t = .pointer (some ⟨x, 0, none⟩) ∧ wx.cell? ⟨y, 0, none⟩ = some (.int .i64 (p0)) ∧ wx.cell? ⟨y, 1, none⟩ = some (.int .i64 (p1 - 1)) ∧ wx.cell? ⟨x, 0, none⟩ = some (.int .i64 (p0)) ∧ wx.cell? ⟨x, 1, none⟩ = some (.int .i64 (p1 + 1)) ∧ y < wx.heap.size ∧ x < wx.heap.size ∧ W0.heap.size ≤ y ∧ W0.heap.size ≤ x ∧ Below W0.heap.size W0 wx)
 case first =>
  have v0 : IntKind.i64.wrap (p1 - 1) = p1 - 1 := IntWalk.i64_in _ om9
  have v1 : IntKind.i64.wrap (p1 + 1) = p1 + 1 := IntWalk.i64_in _ om9
  have HS : Hid (∀ w' : World, Reg (W0.heap.size) (W0) w' → (Reg (W0.heap.size) (W0) w' ∧ w'.cell? ⟨w.heap.size + 1 + 1, 0, none⟩ = some (.int .i64 p0) ∧ w'.cell? ⟨w.heap.size + 1 + 1, 1, none⟩ = some (.int .i64 p1))) := (fun w' h => by (have hc := h.cells; have hs := h.some; have hf := h.frozen; refine ⟨h, ?_⟩; (try simp only [World.size_alloc, World.size_setCell, size_drew, size_drewN] at hc hs hf); first | (simp (disch := omega) only [hc, hs, hf, cur_iff]; (try go_simp); done) | (simp (disch := first | omega | (simp; done)) only [hc, hs, hf, cur_iff]; (try go_simp); done) | (simp (maxDischargeDepth := 4) [hc, hs, hf, cur_iff, go_sem]; done) | (go_simp; done) | (simp (maxDischargeDepth := 4) [hc, hs, hf, cur_iff, go_sem]; go_simp))); go_region_held3 (fun w' => Reg (W0.heap.size) (W0) w' ∧ w'.cell? ⟨w.heap.size + 1 + 1, 0, none⟩ = some (.int .i64 p0) ∧ w'.cell? ⟨w.heap.size + 1 + 1, 1, none⟩ = some (.int .i64 p1)) (exact HS.out _ (by (repeat first | with_reducible exact Reg.refl _ _ | with_reducible refine Reg.alloc ?_ _ | with_reducible refine Reg.drew ?_))) (first | fail)
  all_goals go_wp2_with fail
  all_goals go_meet
  all_goals exact ⟨_, _, rfl, rfl, by go_simp, by go_simp, by go_simp, by go_simp, (by ((try simp only [World.size_alloc, World.size_setCell, size_drew, size_drewN]); omega)), (by ((try simp only [World.size_alloc, World.size_setCell, size_drew, size_drewN]); omega)), om9, om9, by (repeat first | with_reducible exact Below.refl _ _ | (with_reducible refine Below.alloc ?_ ?_ _; rotate_left; exact (by first | omega | (simp; done))) | with_reducible refine Below.drew ?_)⟩
 case rest =>
  obtain ⟨y8, y9, rfl, rfl, a0, a1, d0, d1, h8, h9, l8, l9, hb⟩ := hcut
  obtain ⟨W1, hW1⟩ : ∃ x, x = wc := ⟨_, rfl⟩
  subst hW1
  have hz1 := Nat.lt_of_lt_of_le HZ.out hb.size
  have p0d := (FP.out.below hb).at 0 (.int .i64 p0) rfl
  have p1d := (FP.out.below hb).at 1 (.int .i64 p1) rfl
  have hB1 := hB.trans (hb.mono hB.size)
  have E8 := Lib.hid (BoxL.mk2 h8 a0 a1)
  have E9 := Lib.hid (BoxL.mk2 h9 d0 d1)
  have HB1 := Lib.hid hb
  clear hb p0c p1c a0 a1 d0 d1 h8 h9 l8 l9 hz hB
  go_wp2_with fail
  go_cut [10, 11] (fun s t wx => ∃ y x : Nat, s = .pointer (some ⟨y, 0, none⟩) ∧ t = .pointer (some ⟨x, 0, none⟩) ∧ wx.cell? ⟨y, 0, none⟩ = some (.int .i64 (p0 - 1)) ∧ wx.cell? ⟨y, 1, none⟩ = some (.int .i64 (p1)) ∧ wx.cell? ⟨x, 0, none⟩ = some (.int .i64 (p0 + 1)) ∧ wx.cell? ⟨x, 1, none⟩ = some (.int .i64 (p1)) ∧ y < wx.heap.size ∧ x < wx.heap.size ∧ W1.heap.size ≤ y ∧ W1.heap.size ≤ x ∧ Below W1.heap.size W1 wx)
  case first =>
   have v0 : IntKind.i64.wrap (p0 - 1) = p0 - 1 := IntWalk.i64_in _ om9
   have v1 : IntKind.i64.wrap (p0 + 1) = p0 + 1 := IntWalk.i64_in _ om9
   have HS : Hid (∀ w' : World, Reg (W1.heap.size) (W1) w' → (Reg (W1.heap.size) (W1) w' ∧ w'.cell? ⟨w.heap.size + 1 + 1, 0, none⟩ = some (.int .i64 p0) ∧ w'.cell? ⟨w.heap.size + 1 + 1, 1, none⟩ = some (.int .i64 p1))) := (fun w' h => by (have hc := h.cells; have hs := h.some; have hf := h.frozen; refine ⟨h, ?_⟩; (try simp only [World.size_alloc, World.size_setCell, size_drew, size_drewN] at hc hs hf); first | (simp (disch := omega) only [hc, hs, hf, cur_iff]; (try go_simp); done) | (simp (disch := first | omega | (simp; done)) only [hc, hs, hf, cur_iff]; (try go_simp); done) | (simp (maxDischargeDepth := 4) [hc, hs, hf, cur_iff, go_sem]; done) | (go_simp; done) | (simp (maxDischargeDepth := 4) [hc, hs, hf, cur_iff, go_sem]; go_simp))); go_region_held3 (fun w' => Reg (W1.heap.size) (W1) w' ∧ w'.cell? ⟨w.heap.size + 1 + 1, 0, none⟩ = some (.int .i64 p0) ∧ w'.cell? ⟨w.heap.size + 1 + 1, 1, none⟩ = some (.int .i64 p1)) (exact HS.out _ (by (repeat first | with_reducible exact Reg.refl _ _ | with_reducible refine Reg.alloc ?_ _ | with_reducible refine Reg.drew ?_))) (first | fail)
   all_goals go_wp2_with fail
   all_goals go_meet
   all_goals exact ⟨_, _, rfl, rfl, by go_simp, by go_simp, by go_simp, by go_simp, (by ((try simp only [World.size_alloc, World.size_setCell, size_drew, size_drewN]); omega)), (by ((try simp only [World.size_alloc, World.size_setCell, size_drew, size_drewN]); omega)), om9, om9, by (repeat first | with_reducible exact Below.refl _ _ | (with_reducible refine Below.alloc ?_ ?_ _; rotate_left; exact (by first | omega | (simp; done))) | with_reducible refine Below.drew ?_)⟩
  case rest =>
   obtain ⟨y10, y11, rfl, rfl, a0, a1, d0, d1, h10, h11, l10, l11, hb⟩ := hcut
   have hbb := HB1.out.trans (hb.mono HB1.out.size)
   have m0 := (FM.out.below hbb).at 0 (.string name) rfl
   have m1 := (FM.out.below hbb).at 1 (.slice A la ca) rfl
   have m2 := (FM.out.below hbb).at 2 (.slice B lb cb) rfl
   have m3 := (FM.out.below hbb).at 3 (.slice Cl lc cl) rfl
   have m4 := (FM.out.below hbb).at 4 (.int .i64 r) rfl
   have m5 := (FM.out.below hbb).at 5 (.int .i64 z) rfl
   have m6 := (FM.out.below hbb).at 6 (.int .i64 nr) rfl
   have m7 := (FM.out.below hbb).at 7 (.int .i64 nz) rfl
   have m8 := (FM.out.below hbb).at 8 (.int .i64 step) rfl
   have m9 := (FM.out.below hbb).at 9 (.slice D ld cd) rfl
   have c0 := (FC.out.below hbb).at 0 (.slice A1 na qa) rfl
   have c1 := (FC.out.below hbb).at 1 (.slice B1 nb qb) rfl
   have c2 := (FC.out.below hbb).at 2 (.slice C1 nc qc) rfl
   have e0 := (E8.out.below hb).at 0 (.int .i64 p0) rfl
   have e1 := (E8.out.below hb).at 1 (.int .i64 (p1 - 1)) rfl
   have e2 := (E9.out.below hb).at 0 (.int .i64 p0) rfl
   have e3 := (E9.out.below hb).at 1 (.int .i64 (p1 + 1)) rfl
   have k8 := (E8.out.below hb).1
   have k9 := (E9.out.below hb).1
   have hz2 := Nat.lt_of_lt_of_le hz1 hb.size
   have hz3 : w.heap.size < wc.heap.size := by omega
   have hz4 : w.heap.size + 1 < wc.heap.size := by omega
   have hB2 := hB1.trans (hb.mono hB1.size)
   clear hb hbb p0d p1d E8 E9 HB1 FM FC FP HZ hz1 hB1 l10 l11
   have v0 : IntKind.i64.wrap (f1 - f2) = f1 - f2 := IntWalk.i64_in _ om9
   have v1 : IntKind.i64.wrap (f3 - f4) = f3 - f4 := IntWalk.i64_in _ om9
   go_wp2_with fail
   have HS : Hid (∀ w' : World, Reg (wc.heap.size) (wc) w' → (Reg (wc.heap.size) (wc) w' ∧ w'.cell? ⟨w.heap.size, 0, none⟩ = some (.string name) ∧ w'.cell? ⟨w.heap.size, 1, none⟩ = some (.slice A la ca) ∧ w'.cell? ⟨w.heap.size, 2, none⟩ = some (.slice B lb cb) ∧ w'.cell? ⟨w.heap.size, 3, none⟩ = some (.slice Cl lc cl) ∧ w'.cell? ⟨w.heap.size, 4, none⟩ = some (.int .i64 r) ∧ w'.cell? ⟨w.heap.size, 5, none⟩ = some (.int .i64 z) ∧ w'.cell? ⟨w.heap.size, 6, none⟩ = some (.int .i64 nr) ∧ w'.cell? ⟨w.heap.size, 7, none⟩ = some (.int .i64 nz) ∧ w'.cell? ⟨w.heap.size, 8, none⟩ = some (.int .i64 step) ∧ w'.cell? ⟨w.heap.size, 9, none⟩ = some (.slice D ld cd) ∧ w'.cell? ⟨w.heap.size + 1, 0, none⟩ = some (.slice A1 na qa) ∧ w'.cell? ⟨w.heap.size + 1, 1, none⟩ = some (.slice B1 nb qb) ∧ w'.cell? ⟨w.heap.size + 1, 2, none⟩ = some (.slice C1 nc qc) ∧ w'.cell? ⟨y8, 0, none⟩ = some (.int .i64 p0) ∧ w'.cell? ⟨y8, 1, none⟩ = some (.int .i64 (p1 - 1)) ∧ w'.cell? ⟨y9, 0, none⟩ = some (.int .i64 p0) ∧ w'.cell? ⟨y9, 1, none⟩ = some (.int .i64 (p1 + 1)) ∧ w'.cell? ⟨y10, 0, none⟩ = some (.int .i64 (p0 - 1)) ∧ w'.cell? ⟨y10, 1, none⟩ = some (.int .i64 p1) ∧ w'.cell? ⟨y11, 0, none⟩ = some (.int .i64 (p0 + 1)) ∧ w'.cell? ⟨y11, 1, none⟩ = some (.int .i64 p1))) := (fun w' h => by (have hc := h.cells; have hs := h.some; have hf := h.frozen; refine ⟨h, ?_⟩; (try simp only [World.size_alloc, World.size_setCell, size_drew, size_drewN] at hc hs hf); first | (simp (disch := omega) only [hc, hs, hf, cur_iff]; (try go_simp); done) | (simp (disch := first | omega | (simp; done)) only [hc, hs, hf, cur_iff]; (try go_simp); done) | (simp (maxDischargeDepth := 4) [hc, hs, hf, cur_iff, go_sem]; done) | (go_simp; done) | (simp (maxDischargeDepth := 4) [hc, hs, hf, cur_iff, go_sem]; go_simp))); go_region_held3 (fun w' => Reg (wc.heap.size) (wc) w' ∧ w'.cell? ⟨w.heap.size, 0, none⟩ = some (.string name) ∧ w'.cell? ⟨w.heap.size, 1, none⟩ = some (.slice A la ca) ∧ w'.cell? ⟨w.heap.size, 2, none⟩ = some (.slice B lb cb) ∧ w'.cell? ⟨w.heap.size, 3, none⟩ = some (.slice Cl lc cl) ∧ w'.cell? ⟨w.heap.size, 4, none⟩ = some (.int .i64 r) ∧ w'.cell? ⟨w.heap.size, 5, none⟩ = some (.int .i64 z) ∧ w'.cell? ⟨w.heap.size, 6, none⟩ = some (.int .i64 nr) ∧ w'.cell? ⟨w.heap.size, 7, none⟩ = some (.int .i64 nz) ∧ w'.cell? ⟨w.heap.size, 8, none⟩ = some (.int .i64 step) ∧ w'.cell? ⟨w.heap.size, 9, none⟩ = some (.slice D ld cd) ∧ w'.cell? ⟨w.heap.size + 1, 0, none⟩ = some (.slice A1 na qa) ∧ w'.cell? ⟨w.heap.size + 1, 1, none⟩ = some (.slice B1 nb qb) ∧ w'.cell? ⟨w.heap.size + 1, 2, none⟩ = some (.slice C1 nc qc) ∧ w'.cell? ⟨y8, 0, none⟩ = some (.int .i64 p0) ∧ w'.cell? ⟨y8, 1, none⟩ = some (.int .i64 (p1 - 1)) ∧ w'.cell? ⟨y9, 0, none⟩ = some (.int .i64 p0) ∧ w'.cell? ⟨y9, 1, none⟩ = some (.int .i64 (p1 + 1)) ∧ w'.cell? ⟨y10, 0, none⟩ = some (.int .i64 (p0 - 1)) ∧ w'.cell? ⟨y10, 1, none⟩ = some (.int .i64 p1) ∧ w'.cell? ⟨y11, 0, none⟩ = some (.int .i64 (p0 + 1)) ∧ w'.cell? ⟨y11, 1, none⟩ = some (.int .i64 p1)) (exact HS.out _ (by (repeat first | with_reducible exact Reg.refl _ _ | with_reducible exact (‹Reg _ _ _ ∧ _›).1 | with_reducible refine Reg.drew ?_ | (with_reducible apply Reg.call; rotate_left; with_reducible assumption)))) (first | (go_at_call 55; (with_reducible refine (H1.out _ (Reg.out (‹Reg _ _ _ ∧ _›).1 ra9 om9)).mono ?_); rintro e w9 ⟨rfl, hb⟩; (skip); (try simp only [World.size_alloc, World.size_setCell, size_drew, size_drewN] at hk); obtain ⟨hc, hf⟩ := bcell hb; have hs := hb.size; (try simp only [World.size_alloc, World.size_setCell, size_drew, size_drewN] at hs)) | (go_at_call 55; (with_reducible refine (H2.out _ (Reg.out (‹Reg _ _ _ ∧ _›).1 ra9 om9)).mono ?_); rintro e w9 ⟨rfl, hb⟩; (skip); (try simp only [World.size_alloc, World.size_setCell, size_drew, size_drewN] at hk); obtain ⟨hc, hf⟩ := bcell hb; have hs := hb.size; (try simp only [World.size_alloc, World.size_setCell, size_drew, size_drewN] at hs)))
   all_goals go_wp2_with fail
   all_goals (have HS : Hid (∀ w' : World, Reg (wc.heap.size) (wc) w' → (Reg (wc.heap.size) (wc) w' ∧ w'.cell? ⟨w.heap.size, 0, none⟩ = some (.string name) ∧ w'.cell? ⟨w.heap.size, 1, none⟩ = some (.slice A la ca) ∧ w'.cell? ⟨w.heap.size, 2, none⟩ = some (.slice B lb cb) ∧ w'.cell? ⟨w.heap.size, 3, none⟩ = some (.slice Cl lc cl) ∧ w'.cell? ⟨w.heap.size, 4, none⟩ = some (.int .i64 r) ∧ w'.cell? ⟨w.heap.size, 5, none⟩ = some (.int .i64 z) ∧ w'.cell? ⟨w.heap.size, 6, none⟩ = some (.int .i64 nr) ∧ w'.cell? ⟨w.heap.size, 7, none⟩ = some (.int .i64 nz) ∧ w'.cell? ⟨w.heap.size, 8, none⟩ = some (.int .i64 step) ∧ w'.cell? ⟨w.heap.size, 9, none⟩ = some (.slice D ld cd) ∧ w'.cell? ⟨w.heap.size + 1, 0, none⟩ = some (.slice A1 na qa) ∧ w'.cell? ⟨w.heap.size + 1, 1, none⟩ = some (.slice B1 nb qb) ∧ w'.cell? ⟨w.heap.size + 1, 2, none⟩ = some (.slice C1 nc qc) ∧ w'.cell? ⟨y8, 0, none⟩ = some (.int .i64 p0) ∧ w'.cell? ⟨y8, 1, none⟩ = some (.int .i64 (p1 - 1)) ∧ w'.cell? ⟨y9, 0, none⟩ = some (.int .i64 p0) ∧ w'.cell? ⟨y9, 1, none⟩ = some (.int .i64 (p1 + 1)) ∧ w'.cell? ⟨y10, 0, none⟩ = some (.int .i64 (p0 - 1)) ∧ w'.cell? ⟨y10, 1, none⟩ = some (.int .i64 p1) ∧ w'.cell? ⟨y11, 0, none⟩ = some (.int .i64 (p0 + 1)) ∧ w'.cell? ⟨y11, 1, none⟩ = some (.int .i64 p1))) := (fun w' h => by (have hc := h.cells; have hs := h.some; have hf := h.frozen; refine ⟨h, ?_⟩; (try simp only [World.size_alloc, World.size_setCell, size_drew, size_drewN] at hc hs hf); first | (simp (disch := omega) only [hc, hs, hf, cur_iff]; (try go_simp); done) | (simp (disch := first | omega | (simp; done)) only [hc, hs, hf, cur_iff]; (try go_simp); done) | (simp (maxDischargeDepth := 4) [hc, hs, hf, cur_iff, go_sem]; done) | (go_simp; done) | (simp (maxDischargeDepth := 4) [hc, hs, hf, cur_iff, go_sem]; go_simp))); go_region_held3 (fun w' => Reg (wc.heap.size) (wc) w' ∧ w'.cell? ⟨w.heap.size, 0, none⟩ = some (.string name) ∧ w'.cell? ⟨w.heap.size, 1, none⟩ = some (.slice A la ca) ∧ w'.cell? ⟨w.heap.size, 2, none⟩ = some (.slice B lb cb) ∧ w'.cell? ⟨w.heap.size, 3, none⟩ = some (.slice Cl lc cl) ∧ w'.cell? ⟨w.heap.size, 4, none⟩ = some (.int .i64 r) ∧ w'.cell? ⟨w.heap.size, 5, none⟩ = some (.int .i64 z) ∧ w'.cell? ⟨w.heap.size, 6, none⟩ = some (.int .i64 nr) ∧ w'.cell? ⟨w.heap.size, 7, none⟩ = some (.int .i64 nz) ∧ w'.cell? ⟨w.heap.size, 8, none⟩ = some (.int .i64 step) ∧ w'.cell? ⟨w.heap.size, 9, none⟩ = some (.slice D ld cd) ∧ w'.cell? ⟨w.heap.size + 1, 0, none⟩ = some (.slice A1 na qa) ∧ w'.cell? ⟨w.heap.size + 1, 1, none⟩ = some (.slice B1 nb qb) ∧ w'.cell? ⟨w.heap.size + 1, 2, none⟩ = some (.slice C1 nc qc) ∧ w'.cell? ⟨y8, 0, none⟩ = some (.int .i64 p0) ∧ w'.cell? ⟨y8, 1, none⟩ = some (.int .i64 (p1 - 1)) ∧ w'.cell? ⟨y9, 0, none⟩ = some (.int .i64 p0) ∧ w'.cell? ⟨y9, 1, none⟩ = some (.int .i64 (p1 + 1)) ∧ w'.cell? ⟨y10, 0, none⟩ = some (.int .i64 (p0 - 1)) ∧ w'.cell? ⟨y10, 1, none⟩ = some (.int .i64 p1) ∧ w'.cell? ⟨y11, 0, none⟩ = some (.int .i64 (p0 + 1)) ∧ w'.cell? ⟨y11, 1, none⟩ = some (.int .i64 p1)) (exact HS.out _ (by (repeat first | with_reducible exact (‹Reg _ _ _ ∧ _›).1 | with_reducible refine Reg.drew ?_ | (with_reducible apply Reg.call; rotate_left; with_reducible assumption)))) (first | (go_at_call 55; (with_reducible refine (H3.out _ (Reg.out (‹Reg _ _ _ ∧ _›).1 ra9 om9)).mono ?_); rintro e w9 ⟨rfl, hb⟩; (skip); (try simp only [World.size_alloc, World.size_setCell, size_drew, size_drewN] at hk); obtain ⟨hc, hf⟩ := bcell hb; have hs := hb.size; (try simp only [World.size_alloc, World.size_setCell, size_drew, size_drewN] at hs)) | (go_at_call 55; (with_reducible refine (H4.out _ (Reg.out (‹Reg _ _ _ ∧ _›).1 ra9 om9)).mono ?_); rintro e w9 ⟨rfl, hb⟩; (skip); (try simp only [World.size_alloc, World.size_setCell, size_drew, size_drewN] at hk); obtain ⟨hc, hf⟩ := bcell hb; have hs := hb.size; (try simp only [World.size_alloc, World.size_setCell, size_drew, size_drewN] at hs))))
   all_goals go_wp2_with fail
   all_goals go_ret2
   all_goals exact ⟨rfl, (Reg.out (‹Reg _ _ _ ∧ _›).1 ra9 om9)⟩
end
section
open Go.RowKit
def zeros (n : Nat) : List Value := List.replicate n (.int .i64 0)
end
section
open Go.RowKit
def cellsN (M : MachD) : Int := if checkC M = 0 then M.grid.nr * M.grid.nz else 0
set_option maxRecDepth 100000 in
theorem mcells_any (R : MachR) (M : MachD) (w : World) (hM : IsM w R M) : Calls Tryz.prog 94 #[(.agg (machCells R M))] w (Ret (.int .i64 (cellsN M)) w) := by
 refine calls_ax (vs := [(.agg (machCells R M))]) Tryz.func94 rfl rfl ?_
 refine ac_seq (ac_region ?_)
 refine al_nb (r_box rfl rfl) ?_
 intro b1
 refine al_p (q_assign rfl) (al_end (aq_then ?_))
 refine ac_seq (ac_seq (ac_region ?_))
 refine al_p (q_loadAll (i := 0) rfl rfl Tryz.isAgg29 Tryz.sizeOf29 rfl) (al_call Tryz.call38 (.cons rfl .nil) rfl rfl (fun w1 hs1 => ?_))
 refine (check_any R M _ (hM.below hs1.below)).mono ?_
 rintro e u1 ⟨rfl, hb_1⟩
 refine ⟨_, rfl, hb_1, ?_⟩
 clear hs1
 refine al_p (q_neq rfl rfl) (al_end (aq_then ?_))
 refine ac_cond rfl (fun h1 => ?_) (fun h1 => ?_)
 ·have hc : checkC M ≠ 0 := by simpa using h1
  refine ac_seq (ac_region ?_)
  refine al_p (q_assign rfl) (al_end (aq_then ?_))
  refine ac_ret (aq_thenR (ret1 Tryz.results94 rfl (fun w9 hs => ?_)))
  refine ⟨?_, hs.below⟩; simp [cellsN, hc]
 ·have hc : checkC M = 0 := by simpa using h1
  have hg := cells_fine (sound_of hc).grid
  refine ac_skip (aq_then (ac_seq (ac_region ?_)))
  refine al_p (q_fieldAddr 4 rfl Tryz.runUnderlying29 rfl Tryz.sizeOf26 de9 rfl) (al_p (q_loadSub (i := 0) rfl rfl Tryz.isAgg26 Tryz.sizeOf26 .k4 .k5) (al_call Tryz.call54 (.cons rfl .nil) rfl rfl (fun w2 hs2 => ?_)))
  refine (cells_any M.grid _ om9 om9).mono ?_
  rintro e u2 ⟨rfl, hb_2⟩
  refine ⟨_, rfl, hb_2, ?_⟩
  clear hs2
  refine al_p (q_assign rfl) (al_end (aq_then ?_))
  refine ac_ret (ret1 Tryz.results94 rfl (fun w9 hs => ?_))
  refine ⟨?_, hs.below⟩; simp [cellsN, hc]
end
end Go.Proofs.YthggkidiidnaoaaGreat
