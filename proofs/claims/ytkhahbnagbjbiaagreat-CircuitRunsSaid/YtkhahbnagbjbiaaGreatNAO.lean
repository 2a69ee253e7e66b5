import Derived.Test.YtkhahbnagbjbiaaGreatNAB
import Derived.Test.YtkhahbnagbjbiaaGreatNAK
import Derived.Test.YtkhahbnagbjbiaaGreatNAL
import Derived.Test.YtkhahbnagbjbiaaGreatNAN
import Derived.Deep.Upon
import Derived.Handy
import Derived.Outline
section
/- Abstract walking: lists that grow by append, nil at first or not; what is appended lies in an own box or elsewhere. -/
namespace Go.Proofs.YtkhahbnagbjbiaaGreat
set_option linter.unusedVariables false
set_option linter.unusedSimpArgs false
set_option autoImplicit false
open Go.RowKit

/-- a grown list: nil still, or its block, its capacity and its spare cells -/
abbrev Gr := Option (Nat × Nat × List Value)
def gA (o : Gr) : Option Addr := match o with | none => none | some (b, _, _) => some ⟨b, 0, none⟩
def gC (o : Gr) : Nat := match o with | none => 0 | some (_, c, _) => c
def gt (o : Gr) (cs : List Value) : Boxes := match o with | none => [] | some (b, _, sp) => [(b, .cells (cs ++ sp))]
structure gok (o : Gr) (n z : Nat) (cs : List Value) : Prop where
  len : cs.length = n * z
  nil : o = none → n = 0
  own : ∀ b c sp, o = some (b, c, sp) → n ≤ c ∧ c ≤ 9223372036854775807 ∧ sp.length = (c - n) * z
theorem gok.none (z : Nat) : gok none 0 z [] := ⟨by simp, fun _ => rfl, fun _ _ _ h => by cases h⟩
theorem gok.some {o : Gr} {n z : Nat} {cs : List Value} (h : gok o n z cs) (h0 : 0 < n) : ∃ b c sp, o = some (b, c, sp) := by
  rcases o with _ | ⟨b, c, sp⟩
  · have := h.nil rfl; omega
  · exact ⟨b, c, sp, rfl⟩
theorem gok.le {o : Gr} {n z : Nat} {cs : List Value} (h : gok o n z cs) : n ≤ gC o ∧ gC o ≤ 9223372036854775807 := by
  rcases o with _ | ⟨b, c, sp⟩
  · have := h.nil rfl; exact ⟨by simp [gC, this], by simp [gC]⟩
  · have := h.own b c sp rfl; exact ⟨this.1, this.2.1⟩
/-- L is L1 and G behind it -/
inductive Tl : Boxes → Boxes → Boxes → Prop
  | z {G : Boxes} : Tl [] G G
  | s {x : Nat × Cont} {L1 G L : Boxes} (h : Tl L1 G L) : Tl (x :: L1) G (x :: L)
theorem Tl.eq {L1 G L : Boxes} (h : Tl L1 G L) : L = L1 ++ G := by
  induction h with
  | z => rfl
  | s _ ih => rw [ih]; rfl

theorem apart_pair {L : Boxes} : (∀ (i j b : Nat) (cs cs' : Cont), L[i]? = some (b, cs) → L[j]? = some (b, cs') → i = j) ↔ L.Pairwise (fun x y => x.1 ≠ y.1) := by
  rw [List.pairwise_iff_getElem]
  constructor
  · intro h i j hi hj hij he
    have h1 : L[i]? = some (L[i].1, L[i].2) := List.getElem?_eq_getElem hi
    have h2 : L[j]? = some (L[i].1, L[j].2) := by rw [List.getElem?_eq_getElem hj, he]
    have := h i j _ _ _ h1 h2
    omega
  · intro h i j b cs cs' hi hj
    obtain ⟨li, ei⟩ := List.getElem?_eq_some_iff.1 hi
    obtain ⟨lj, ej⟩ := List.getElem?_eq_some_iff.1 hj
    rcases Nat.lt_trichotomy i j with g | g | g
    · exact absurd (by rw [ei, ej]) (h i j li lj g)
    · exact g
    · exact absurd (by rw [ei, ej]) (h j i lj li g)
theorem Sta.perm {E : Cfg} {U : Snaps} {L L' : Boxes} {w : World} (h : Sta E U L w) (hp : L.Perm L') : Sta E U L' w := by
  have mem : ∀ (i b : Nat) (cs : Cont), L'[i]? = some (b, cs) → ∃ j, L[j]? = some (b, cs) := fun i b cs hi => by
    have := hp.mem_iff.2 (List.mem_of_getElem? hi)
    exact List.getElem?_of_mem this
  refine ⟨h.chg, fun i b cs hi => ?_, ?_, fun lo u hu => ?_⟩
  · obtain ⟨j, hj⟩ := mem i b cs hi; exact h.box j b cs hj
  · have h1 := apart_pair.1 h.apart
    exact apart_pair.2 ((hp.pairwise_iff (fun {x y} hxy => Ne.symm hxy)).1 h1)
  · obtain ⟨a, b, c, d, e, f⟩ := h.snap lo u hu
    exact ⟨a, b, c, d, e, fun i b cs hi => by obtain ⟨j, hj⟩ := mem i b cs hi; exact f j b cs hj⟩

theorem Sta.front {E : Cfg} {U : Snaps} {L L1 G : Boxes} {w : World} (h : Sta E U L w) (hT : Tl L1 G L) : Sta E U L1 w := by
  have hL := hT.eq
  have up : ∀ (i b : Nat) (cs : Cont), L1[i]? = some (b, cs) → L[i]? = some (b, cs) := fun i b cs hi => by
    rw [hL, List.getElem?_append_left (List.getElem?_eq_some_iff.1 hi).1]; exact hi
  exact ⟨h.chg, fun i b cs hi => h.box i b cs (up i b cs hi), fun i j b cs cs' hi hj => h.apart i j b cs cs' (up i b cs hi) (up j b cs' hj), fun lo u hu => by
    obtain ⟨a, b, c, d, e, f⟩ := h.snap lo u hu
    exact ⟨a, b, c, d, e, fun i b cs hi => f i b cs (up i b cs hi)⟩⟩
theorem ac_drawF {P : Program} {e0 : Cfg} {U : Snaps} {l : Slots} {L L1 G : Boxes} {Q : Exit → Act → World → Prop} {id : Nat} {os : List Oper} (last : Nat) (hT : Tl L1 G L) (hm : P.follows .mixedOrders = true) (hok : lastOk os.toArray last = true) (k : AH P os.toArray Q U L1 last os.toArray.size (Array.replicate os.toArray.size false) e0 U l L) : AC P e0 U l L (.region id os.toArray true) Q :=
  fun a w hf hs => wp_region_any hm (wpAny_of_G _ _ _ _ (k hok (DrawnTo.start _ _) a _ hf hs.drew))

section
variable {P : Program} {e0 : Cfg} {U : Snaps} {l : Slots} {L : Boxes} {ops : Array Oper} {Q : Exit → Act → World → Prop} {rest : List Oper} {d : Nat} {v : Value}
variable {ty : TypeId} {pos : String} {af : Array Edge} {g : Option (Nat × Bool)} {dd : Option Nat}

/-- what is appended: m items, these cells -/
structure Sor (e0 : Cfg) (U : Snaps) (L : Boxes) (z : Nat) (y : Value) (m : Nat) (vs : List Value) : Prop where
  len : vs.length = m * z
  one : vs.all (fun u => u.oneCell') = true
  val : ∃ (yA : Option Addr) (c : Nat), y = .slice yA m c ∧ ∀ w, Sta e0 U L w → 0 < m → ∃ A, yA = some A ∧ ∀ j u, vs[j]? = some u → w.cell? (A.add j) = some u
/-- out of an own box that holds just these -/
theorem Sor.box {z m c j bs : Nat} {vs : List Value} (hj : L[j]? = some (bs, .cells vs)) (hl : vs.length = m * z) (h1 : vs.all (fun u => u.oneCell') = true) : Sor e0 U L z (.slice (some ⟨bs, 0, none⟩) m c) m vs :=
  ⟨hl, h1, _, _, rfl, fun w hs _ => ⟨_, rfl, fun i u hu => by rw [addr_add, Nat.zero_add]; exact hs.cell hj hu⟩⟩
/-- a list that lies elsewhere -/
theorem Sor.list {α : Type} {z m c : Nat} {A : Option Addr} {enc : α → List Value} {zs : List α} (hlen : ∀ x, (enc x).length = z) (h1 : ∀ x, (enc x).all (fun u => u.oneCell') = true) (hz : zs.length = m) (h : ∀ w, Sta e0 U L w → IsT z enc w A m zs) :
    Sor e0 U L z (.slice A m c) m (zs.flatMap enc) := by
  refine ⟨?_, ?_, _, _, rfl, fun w hs h0 => ?_⟩
  · subst hz
    clear h
    induction zs with
    | nil => simp
    | cons x r ih => rw [List.flatMap_cons, List.length_append, hlen, ih, List.length_cons, Nat.add_mul]; omega
  · clear h hz
    induction zs with
    | nil => rfl
    | cons x r ih => rw [List.flatMap_cons, List.all_append, h1, ih]; rfl
  · obtain ⟨b, o, e, h2, h3⟩ := (h w hs).2 h0
    refine ⟨_, e, fun j u hu => ?_⟩
    rw [addr_add]
    have key : ∀ (ys : List α) (k j : Nat) (u : Value), (ys.flatMap enc)[j]? = some u → (∀ i x, ys[i]? = some x → zs[k + i]? = some x) → w.cell? ⟨b, o + (k * z + j), none⟩ = some u := by
      intro ys
      induction ys with
      | nil => intro k j u hu _; simp at hu
      | cons y r ih =>
        intro k j u hu hk
        rw [List.flatMap_cons] at hu
        rcases Nat.lt_or_ge j z with g | g
        · rw [List.getElem?_append_left (by rw [hlen]; exact g)] at hu
          have := h3 k y (hk 0 y rfl) j u hu
          rw [← Nat.add_assoc]; exact this
        · rw [List.getElem?_append_right (by rw [hlen]; exact g), hlen] at hu
          have := ih (k + 1) (j - z) u hu (fun i x hx => by rw [Nat.add_assoc, Nat.add_comm 1 i]; exact hk (i + 1) x hx)
          rw [Nat.add_mul] at this
          rw [show k * z + j = k * z + 1 * z + (j - z) by omega]; exact this
    have := key zs 0 j u hu (fun i x hx => by simpa using hx)
    simpa using this

theorem al_grow {t e z bytes n m : Nat} {zv : Value} {o : Gr} {cs vs : List Value} {L1 G : Boxes} {y : Value} {ox oy : Operand} (hx : E l ox = some (.slice (gA o) n (gC o))) (hy : E l oy = some y) (hT : Tl L1 (gt o cs ++ G) L) (hg : gok o n z cs) (hs : Sor e0 U L z y m vs)
    (hu : P.underlying t = some (.slice e)) (hinfo : (P.info? e).map (fun i => (i.zero, i.size, i.bytes)) = some (some zv, z, bytes)) (hzv : zv.cells.size = z) (hm : n + m ≤ 1000000) (hb : bytes ≤ 10000)
    (hn : Nat.blt d e0.n = true) (hw : want ops l g = some true)
    (k : ∀ o', gok o' (n + m) z (cs ++ vs) → ∃ L', Tl L1 (gt o' (cs ++ vs) ++ G) L' ∧ AL P ops Q e0 U ((d, .slice (gA o') (n + m) (gC o')) :: l) L' rest) :
    AL P ops Q e0 U l L (⟨some d, .call ⟨.builtin .append, #[ox, oy], #[t, t]⟩, ty, pos, af, g⟩ :: rest) :=
  al_run2 (K := True) hw rfl hn (fun a w hf hst => by
    obtain ⟨hl, h1, yA, c, rfl, hc⟩ := hs
    rcases Nat.eq_zero_or_pos m with h0 | h0
    · subst h0
      have hv : vs = [] := List.length_eq_zero_iff.1 (by simpa using hl)
      subst hv
      obtain ⟨ti, hti, hz, rfl, rfl⟩ := info_split hinfo
      have hsrc : Go.Src P ti.size t (.slice yA 0 c) 0 [] w := by
        cases yA with
        | none => exact Go.Src.ofNil w hu c
        | some A => exact Go.Src.ofSlice w hu A 0 c [] (by simp) (fun j u h => by simp at h) (fun u h => by cases h)
      have hr := run_append_nothing (P := P) w t t ty e ti hu hti (gA o) n (gC o) hg.le.1 _ hsrc
      obtain ⟨L', hL', hk⟩ := k o (by simpa using hg)
      have e1 : L' = L := by rw [hL'.eq, hT.eq]; simp
      exact ⟨_, w, U, L', ex_append (hf.ev hx) (hf.ev hy) hr, by rw [e1]; exact hst, hk⟩
    · obtain ⟨A, rfl, hA⟩ := hc w hst h0
      rcases o with _ | ⟨b, cap, sp⟩
      · have hn0 := hg.nil rfl
        subst hn0
        have hcs : cs = [] := List.length_eq_zero_iff.1 (by simpa using hg.len)
        subst hcs
        have eL : L = L1 ++ G := by rw [hT.eq]; simp [gt]
        obtain ⟨b', cap', sp', w', hr, h2, h3, h4, hst'⟩ := run_appendNil (A := A) (c := c) ty hu hinfo hzv hst hl hA h0 (by omega) hb
        obtain ⟨L', hL', hk⟩ := k (some (b', cap', sp')) ⟨by simpa using hl, fun e => by (cases e), fun b c sp e => by cases e; rw [Nat.zero_add]; exact ⟨h2, h3, h4⟩⟩
        have e1 : ((0 : Nat) + m) = m := Nat.zero_add m
        rw [e1] at hk
        refine ⟨_, w', U, L', ex_append (hf.ev hx) (hf.ev hy) hr, ?_, hk⟩
        rw [hL'.eq]
        refine hst'.perm ?_
        rw [eL]
        show ((b', Cont.cells (vs ++ sp')) :: (L1 ++ G)).Perm (L1 ++ ((b', Cont.cells ([] ++ vs ++ sp')) :: G))
        rw [List.nil_append]
        exact List.perm_middle.symm
      · obtain ⟨g1, g2, g3⟩ := hg.own b cap sp rfl
        have hL := hT.eq
        have hi : L[L1.length]? = some (b, .cells (cs ++ sp)) := by rw [hL]; simp [gt]
        obtain ⟨b', cap', sp', w', hr, h2, h3, h4, hst'⟩ := run_appendBox (A := A) (c := c) ty hu hinfo hzv hst hi hg.len g3 g1 g2 hl hA (by simpa using h1) hm hb
        obtain ⟨L', hL', hk⟩ := k (some (b', cap', sp')) ⟨by rw [List.length_append, hg.len, hl, Nat.add_mul], fun e => by (cases e), fun b c sp e => by cases e; exact ⟨h2, h3, h4⟩⟩
        refine ⟨_, w', U, L', ex_append (hf.ev hx) (hf.ev hy) hr, ?_, hk⟩
        rw [hL'.eq]
        have e2 : L.set L1.length (b', .cells ((cs ++ vs) ++ sp')) = L1 ++ (gt (some (b', cap', sp')) (cs ++ vs) ++ G) := by
          rw [hL, List.set_append_right _ _ (Nat.le_refl _)]; simp [gt]
        rw [← e2]; exact hst')
/-- append to an own list, of whatever -/
theorem al_appendS {t e z bytes m nn cap i b : Nat} {zv : Value} {vs xs sp : List Value} {y : Value} {ox oy : Operand} (hx : E l ox = some (.slice (some ⟨b, 0, none⟩) nn cap)) (hi : L[i]? = some (b, .cells (xs ++ sp))) (hxs : xs.length = nn * z) (hsp : sp.length = (cap - nn) * z) (hcap : nn ≤ cap) (hcm : cap ≤ 9223372036854775807)
    (hy : E l oy = some y) (hs : Sor e0 U L z y m vs)
    (hu : P.underlying t = some (.slice e)) (hinfo : (P.info? e).map (fun i => (i.zero, i.size, i.bytes)) = some (some zv, z, bytes)) (hzv : zv.cells.size = z) (hm : nn + m ≤ 1000000) (hb : bytes ≤ 10000)
    (hn : Nat.blt d e0.n = true) (hw : want ops l g = some true)
    (k : ∀ b' cap' sp', nn + m ≤ cap' → cap' ≤ 9223372036854775807 → sp'.length = (cap' - (nn + m)) * z → ∃ L', SetAt i (b', .cells ((xs ++ vs) ++ sp')) L L' ∧ AL P ops Q e0 U ((d, .slice (some ⟨b', 0, none⟩) (nn + m) cap') :: l) L' rest) :
    AL P ops Q e0 U l L (⟨some d, .call ⟨.builtin .append, #[ox, oy], #[t, t]⟩, ty, pos, af, g⟩ :: rest) :=
  al_run2 (K := True) hw rfl hn (fun a w hf hst => by
    obtain ⟨hl, h1, yA, c, rfl, hc⟩ := hs
    rcases Nat.eq_zero_or_pos m with h0 | h0
    · subst h0
      have hv : vs = [] := List.length_eq_zero_iff.1 (by simpa using hl)
      subst hv
      obtain ⟨ti, hti, hz, rfl, rfl⟩ := info_split hinfo
      have hsrc : Go.Src P ti.size t (.slice yA 0 c) 0 [] w := by
        cases yA with
        | none => exact Go.Src.ofNil w hu c
        | some A => exact Go.Src.ofSlice w hu A 0 c [] (by simp) (fun j u h => by simp at h) (fun u h => by cases h)
      have hr := run_append_nothing (P := P) w t t ty e ti hu hti (some ⟨b, 0, none⟩) nn cap hcap _ hsrc
      obtain ⟨L', hL', hk⟩ := k b cap sp hcap hcm hsp
      have e1 : L' = L := by
        rw [hL'.eq, List.append_nil]
        apply List.ext_getElem?
        intro j
        by_cases hj : i = j
        · subst hj
          rw [List.getElem?_set_self (List.getElem?_eq_some_iff.1 hi).1, hi]
        · rw [List.getElem?_set_ne hj]
      exact ⟨_, w, U, L', ex_append (hf.ev hx) (hf.ev hy) hr, by rw [e1]; exact hst, hk⟩
    · obtain ⟨A, rfl, hA⟩ := hc w hst h0
      obtain ⟨b', cap', sp', w', hr, h2, h3, h4, hst'⟩ := run_appendBox (A := A) (c := c) ty hu hinfo hzv hst hi hxs hsp hcap hcm hl hA (by simpa using h1) hm hb
      obtain ⟨L', hL, hk⟩ := k b' cap' sp' h2 h3 h4
      exact ⟨_, w', U, L', ex_append (hf.ev hx) (hf.ev hy) hr, by rw [hL.eq]; exact hst', hk⟩)
theorem aq_sub {V : Snaps} {S : Slots} {M : Boxes} {X : Act → World → Prop} (h : AQ e0 V S M X) (hl : AllLook l S) (hL : ∀ w, Sta e0 U L w → Sta e0 V M w) : AQ e0 U l L X := fun a w hf hs => h a w (hf.sub hl.sub) (hL w hs)
/-- a cut behind the first of two codes: new boxes lie in front of the old ones -/
theorem ac_cut {β : Type} {c1 c2 : Code} (F : β → Prop) (S : β → Slots) (V : β → Snaps) (M : β → Boxes → Boxes)
    (h1 : ∀ X : Act → World → Prop, (∀ y, F y → AQ e0 (V y) (S y) (M y L) X) → AC P e0 U l L c1 (Exit.then X Q)) (h2 : ∀ y, F y → AC P e0 (V y) (S y) (M y L) c2 Q) : AC P e0 U l L (.seq c1 c2) Q := ac_seq (h1 _ h2)
theorem Sta.firstSnaps {w : World} (h : Sta e0 U L w) (k : Nat) {V : Snaps} (hV : U.take k = V) : Sta e0 V L w :=
  ⟨h.chg, h.box, h.apart, fun lo u hu => h.snap lo u (by subst hV; exact List.mem_of_mem_take hu)⟩
end
/-- a list that a callee has made: nil, or in a block that is new -/
structure NewT {α : Type} (z : Nat) (enc : α → List Value) (B : Nat) (w : World) (A : Option Addr) (n c : Nat) (zs : List α) : Prop where
  isT : IsT z enc w A n zs
  new : ∀ b off, A = some ⟨b, off, none⟩ → B ≤ b
  le : n ≤ c ∧ c ≤ 9223372036854775807
theorem Sta.grown {α : Type} {z n N : Nat} {D : List Deferred} {enc : α → List Value} (hlen : ∀ x, (enc x).length = z) {w0 w : World} {U : Snaps} {L : Boxes} {o : Gr} {cs : List Value} {zs : List α} (h : Sta ⟨N, D, w0, []⟩ U L w) (hT : ∀ x ∈ gt o cs, x ∈ L) (hg : gok o n z cs)
    (hz : zs.flatMap enc = cs) (hn : zs.length = n) : NewT z enc w0.heap.size w (gA o) n (gC o) zs := by
  refine ⟨?_, fun b off e => ?_, hg.le⟩
  · rcases o with _ | ⟨b, c, sp⟩
    · have := hg.nil rfl
      exact ⟨hn, fun h0 => by omega⟩
    · obtain ⟨i, hi⟩ := List.getElem?_of_mem (hT (b, .cells (cs ++ sp)) (by simp [gt]))
      exact isT_box hlen (h.at _ hi) hz hn
  · rcases o with _ | ⟨b', c, sp⟩
    · cases e
    · obtain ⟨i, hi⟩ := List.getElem?_of_mem (hT (b', .cells (cs ++ sp)) (by simp [gt]))
      have := (h.box _ _ _ hi).1
      cases e
      rcases this with g | g
      · exact g
      · cases g
/-- ints as cells -/
theorem flat_int : ∀ l : List Int, l.flatMap intCells = l.map (Value.int .i64)
  | [] => rfl
  | x :: l => by rw [List.flatMap_cons, flat_int l]; rfl
/-- it still lies there, behind whatever came -/
theorem Sta.newT {α : Type} {z n c : Nat} {enc : α → List Value} {E : Cfg} {U : Snaps} {L : Boxes} {w u : World} {lo : Nat} {A : Option Addr} {zs : List α} (h : Sta E U L w) (hu : (lo, u) ∈ U) (hN : NewT z enc lo u A n c zs) : IsT z enc w A n zs :=
  h.isT hu hN.isT fun b o e => Or.inl (hN.new b o e)

end Go.Proofs.YtkhahbnagbjbiaaGreat
end
section
/- Abstract walking: a struct's field, a list's piece, make with room, stores at a place of a made list. -/
namespace Go.Proofs.YtkhahbnagbjbiaaGreat
set_option linter.unusedVariables false
set_option linter.unusedSimpArgs false
set_option autoImplicit false
open Go.RowKit

section
variable {P : Program} {e0 : Cfg} {U : Snaps} {l : Slots} {L : Boxes} {ops : Array Oper} {Q : Exit → Act → World → Prop} {rest : List Oper} {d : Nat} {v : Value}
variable {ty : TypeId} {pos : String} {af : Array Edge} {g : Option (Nat × Bool)} {dd : Option Nat}

/-- a drawn region of which only the boxes behind the first k are held -/
theorem ac_drawK {L0 : Boxes} {id : Nat} {os : List Oper} (k last : Nat) (hL : L.drop k = L0) (hm : P.follows .mixedOrders = true) (hok : lastOk os.toArray last = true) (h : AH P os.toArray Q U L0 last os.toArray.size (Array.replicate os.toArray.size false) e0 U l L) : AC P e0 U l L (.region id os.toArray true) Q :=
  fun a w hf hs => wp_region_any hm (wpAny_of_G _ _ _ _ (h hok (DrawnTo.start _ _) a _ hf hs.drew))
theorem run_equalIn_nilS (d : Nat) {t e n c : Nat} (h : P.underlying t = some (.slice e)) (w : World) : (Op.equalIn (d + 1) t (.slice none n c) (.slice none 0 0)).run P w = .ok true w := by simp [Op.equalIn, run_underlying h]
theorem run_equalIn_someS (d : Nat) {t e n c : Nat} {A : Addr} (h : P.underlying t = some (.slice e)) (w : World) : (Op.equalIn (d + 1) t (.slice (some A) n c) (.slice none 0 0)).run P w = .ok false w := by simp [Op.equalIn, run_underlying h]
theorem run_equal_nilS {t e n c : Nat} (h : P.underlying t = some (.slice e)) (w : World) : (Op.equal t (.slice none n c) (.slice none 0 0)).run P w = .ok true w := run_equalIn_nilS 9999 h w
theorem run_equal_someS {t e n c : Nat} {A : Addr} (h : P.underlying t = some (.slice e)) (w : World) : (Op.equal t (.slice (some A) n c) (.slice none 0 0)).run P w = .ok false w := run_equalIn_someS 9999 h w
theorem bin_eql_S (t : TypeId) (A : Option Addr) (n c : Nat) : binOp .eql t (.slice A n c) (.slice none 0 0) = (do pure (.bool (← Op.equal t (.slice A n c) (.slice none 0 0))) : Sem Value) := rfl
theorem q_eqlNil0 {xt yt e n c : Nat} {ox : Operand} (hx : E l ox = some (.slice none n c)) (hu : P.underlying xt = some (.slice e)) : Q1 P e0 U l L ⟨dd, .binOp .eql xt ox (.const (.slice none 0 0)) yt, ty, pos, af, g⟩ (.bool true) :=
  q_bin hx rfl (fun w => by simp [eqGuard]) (fun w => by rw [bin_eql_S]; simp [run_equal_nilS hu])
theorem q_eqlNil1 {xt yt e n c : Nat} {A : Addr} {ox : Operand} (hx : E l ox = some (.slice (some A) n c)) (hu : P.underlying xt = some (.slice e)) : Q1 P e0 U l L ⟨dd, .binOp .eql xt ox (.const (.slice none 0 0)) yt, ty, pos, af, g⟩ (.bool false) :=
  q_bin hx rfl (fun w => by simp [eqGuard]) (fun w => by rw [bin_eql_S]; simp [run_equal_someS hu])
theorem IsT.piece {α : Type} {z : Nat} {enc : α → List Value} {w : World} {len b o : Nat} {zs : List α} (h : IsT z enc w (some ⟨b, o, none⟩) len zs) {lo n : Nat} (hl : lo + n ≤ len) : IsT z enc w (some ⟨b, o + lo * z, none⟩) n ((zs.drop lo).take n) := by
  refine ⟨by rw [List.length_take, List.length_drop, h.1]; omega, fun h0 => ?_⟩
  obtain ⟨b', o', e, h1, h2⟩ := h.2 (by omega)
  cases e
  refine ⟨_, _, rfl, h1, fun j x hx i v hv => ?_⟩
  have hj : j < n := by
    have := (List.getElem?_eq_some_iff.1 hx).1
    rw [List.length_take] at this; omega
  rw [List.getElem?_take_of_lt hj, List.getElem?_drop] at hx
  have := h2 (lo + j) x hx i v hv
  rw [Nat.add_mul] at this
  rw [← this]; congr 2; omega
theorem SetAt.ofSet {α : Type} : ∀ {n : Nat} {x : α} {l : List α}, n < l.length → SetAt n x l (l.set n x)
  | 0, x, y :: l, _ => .z
  | n + 1, x, y :: l, h => .s (SetAt.ofSet (by simpa using h))
end
theorem Sta.cellOf {E : Cfg} {U : Snaps} {L : Boxes} {w u : World} {lo b k : Nat} {v : Value} (h : Sta E U L w) (hu : (lo, u) ∈ U) (hlo : lo ≤ b) (hlt : b < u.heap.size) (hc : u.cell? ⟨b, k, none⟩ = some v) : w.cell? ⟨b, k, none⟩ = some v := by
  obtain ⟨s0, s1, s2, s3, s4, -⟩ := h.snap _ _ hu
  rw [World.cell?_of_block (w := u) (w' := w) (a := ⟨b, _, none⟩) (s3 b hlo hlt)]; exact hc

end Go.Proofs.YtkhahbnagbjbiaaGreat
end
section
/- Blocks whose cells are known, carried on as long as the memory below stays, over this seat's translation (written by mk_whc.py). -/
namespace Go.Proofs.YtkhahbnagbjbiaaGreat
set_option linter.unusedVariables false
set_option linter.unusedSimpArgs false
open Go.RowKit

/-- Block b holds the values vs from its first cell on. -/
def BoxL (b : Nat) (vs : List Value) (W : World) : Prop := b < W.heap.size ∧ ∀ (k : Nat) (v : Value), vs[k]? = some v → W.cell? ⟨b, k, none⟩ = some v
theorem BoxL.at {b : Nat} {vs : List Value} {W : World} (h : BoxL b vs W) (k : Nat) (v : Value) (hv : vs[k]? = some v) : W.cell? ⟨b, k, none⟩ = some v := h.2 k v hv
theorem BoxL.below {b : Nat} {vs : List Value} {W W' : World} (h : BoxL b vs W) (hb : Below W.heap.size W W') : BoxL b vs W' :=
  ⟨Nat.lt_of_lt_of_le h.1 hb.size, fun k v hv => (hb.cell (p := ⟨b, k, none⟩) h.1).trans (h.2 k v hv)⟩
theorem BoxL.mk2 {b : Nat} {v0 v1 : Value} {W : World} (hb : b < W.heap.size) (h0 : W.cell? ⟨b, 0, none⟩ = some v0) (h1 : W.cell? ⟨b, 1, none⟩ = some v1) : BoxL b [v0, v1] W :=
  ⟨hb, fun k v hv => by match k, hv with | 0, hv => rw [h0]; exact hv | 1, hv => rw [h1]; exact hv⟩
theorem BoxL.mk3 {b : Nat} {v0 v1 v2 : Value} {W : World} (hb : b < W.heap.size) (h0 : W.cell? ⟨b, 0, none⟩ = some v0) (h1 : W.cell? ⟨b, 1, none⟩ = some v1) (h2 : W.cell? ⟨b, 2, none⟩ = some v2) : BoxL b [v0, v1, v2] W :=
  ⟨hb, fun k v hv => by match k, hv with | 0, hv => rw [h0]; exact hv | 1, hv => rw [h1]; exact hv | 2, hv => rw [h2]; exact hv⟩
theorem BoxL.mk10 {b : Nat} {v0 v1 v2 v3 v4 v5 v6 v7 v8 v9 : Value} {W : World} (hb : b < W.heap.size) (h0 : W.cell? ⟨b, 0, none⟩ = some v0) (h1 : W.cell? ⟨b, 1, none⟩ = some v1) (h2 : W.cell? ⟨b, 2, none⟩ = some v2) (h3 : W.cell? ⟨b, 3, none⟩ = some v3) (h4 : W.cell? ⟨b, 4, none⟩ = some v4) (h5 : W.cell? ⟨b, 5, none⟩ = some v5) (h6 : W.cell? ⟨b, 6, none⟩ = some v6) (h7 : W.cell? ⟨b, 7, none⟩ = some v7) (h8 : W.cell? ⟨b, 8, none⟩ = some v8) (h9 : W.cell? ⟨b, 9, none⟩ = some v9) : BoxL b [v0, v1, v2, v3, v4, v5, v6, v7, v8, v9] W :=
  ⟨hb, fun k v hv => by match k, hv with | 0, hv => rw [h0]; exact hv | 1, hv => rw [h1]; exact hv | 2, hv => rw [h2]; exact hv | 3, hv => rw [h3]; exact hv | 4, hv => rw [h4]; exact hv | 5, hv => rw [h5]; exact hv | 6, hv => rw [h6]; exact hv | 7, hv => rw [h7]; exact hv | 8, hv => rw [h8]; exact hv | 9, hv => rw [h9]; exact hv⟩
/-- The first n cells of block b bear no mark. -/
def MarkL (b n : Nat) (W : World) : Prop := b < W.heap.size ∧ ∀ k, k < n → W.frozen? ⟨b, k, none⟩ = false
theorem MarkL.at {b n : Nat} {W : World} (h : MarkL b n W) (k : Nat) (hk : k < n) : W.frozen? ⟨b, k, none⟩ = false := h.2 k hk
theorem MarkL.below {b n : Nat} {W W' : World} (h : MarkL b n W) (hb : Below W.heap.size W W') : MarkL b n W' :=
  ⟨Nat.lt_of_lt_of_le h.1 hb.size, fun k hk => (hb.frozen (p := ⟨b, k, none⟩) h.1).trans (h.2 k hk)⟩
theorem MarkL.mk2 {b : Nat} {W : World} (hb : b < W.heap.size) (h0 : W.frozen? ⟨b, 0, none⟩ = false) (h1 : W.frozen? ⟨b, 1, none⟩ = false) : MarkL b 2 W :=
  ⟨hb, fun k hk => by match k, hk with | 0, _ => exact h0 | 1, _ => exact h1⟩

end Go.Proofs.YtkhahbnagbjbiaaGreat
end
section
/- Package machine: fieldAt over valid currents, over this seat's translation (written by mk_fld.py). -/
namespace Go.Proofs.YtkhahbnagbjbiaaGreat
set_option linter.unusedVariables false
set_option linter.unusedSimpArgs false
open Go.RowKit Go.Shelf

end Go.Proofs.YtkhahbnagbjbiaaGreat
end
