import Derived.Test.YtcdhanfjcnfjjaaKAD
import Derived.Test.YtcdhanfjcnfjjaaKAI
import Derived.Test.YtcdhanfjcnfjjaaKAJ
import Derived.Test.YtcdhanfjcnfjjaaKAK
import Derived.Test.YtcdhanfjcnfjjaaKAR
import Derived.Test.YtcdhanfjcnfjjaaKAS
import Derived.Recover
import Derived.Deep.Upon
import Derived.Test.YtcdhanfjcnfjjaaRows
import Derived.KernelRfl
import Derived.Laws.StructEq
section
/- Abstract walking: deferred calls that recover nothing. -/
namespace Go.Proofs.Ytcdhanfjcnfjjaa
set_option linter.unusedVariables false
set_option linter.unusedSimpArgs false
set_option autoImplicit false
open Go.RowKit

section
variable {P : Program} {e0 : Cfg} {U : Snaps} {l : Slots} {L : Boxes} {ops : Array Oper} {Q : Exit → Act → World → Prop} {rest : List Oper} {d : Nat} {v : Value}
variable {ty : TypeId} {pos : String} {af : Array Edge} {g : Option (Nat × Bool)} {dd : Option Nat}

theorem Fr.defer {n : Nat} {D : List Deferred} {w0 : World} {bs : List Nat} {a : Act} (h : Fr ⟨n, D, w0, bs⟩ l a) (x : Deferred) (u : Value) : Fr ⟨n, x :: D, w0, bs⟩ l ({ a with defers := x :: a.defers }.put none u) :=
  ⟨h.size, by show x :: a.defers = x :: D; rw [h.defers], h.slot⟩
end
end Go.Proofs.Ytcdhanfjcnfjjaa
end
section
/- Abstract walking: lists in own boxes as the lists that the contracts speak of. -/
namespace Go.Proofs.Ytcdhanfjcnfjjaa
set_option linter.unusedVariables false
set_option linter.unusedSimpArgs false
open Go.RowKit

theorem flat_get {α : Type} {n : Nat} {enc : α → List Value} (hl : ∀ x, (enc x).length = n) : ∀ (zs : List α) (j : Nat) (x : α), zs[j]? = some x → ∀ (i : Nat) (v : Value), (enc x)[i]? = some v → (zs.flatMap enc)[j * n + i]? = some v
  | [], j, x, h, i, v, hv => by simp at h
  | z :: zs, 0, x, h, i, v, hv => by
    obtain rfl : z = x := by simpa using h
    have hi := (List.getElem?_eq_some_iff.1 hv).1
    simp only [List.flatMap_cons, Nat.zero_mul, Nat.zero_add]
    rw [List.getElem?_append_left hi]; exact hv
  | z :: zs, j + 1, x, h, i, v, hv => by
    simp only [List.flatMap_cons]
    rw [List.getElem?_append_right (by rw [hl, Nat.add_mul]; omega), hl]
    have e : (j + 1) * n + i - n = j * n + i := by rw [Nat.add_mul]; omega
    rw [e]
    exact flat_get hl zs j x (by simpa using h) i v hv
theorem isT_box {α : Type} {n : Nat} {enc : α → List Value} (hl : ∀ x, (enc x).length = n) {w : World} {b : Nat} {cs sp : List Value} {zs : List α} {len : Nat} (h : BoxAt w b (.cells (cs ++ sp))) (hz : zs.flatMap enc = cs) (hn : zs.length = len) : IsT n enc w (some ⟨b, 0, none⟩) len zs := by
  refine ⟨hn, fun _ => ⟨b, 0, rfl, h.lt, fun j x hx i v hv => ?_⟩⟩
  have hc := flat_get hl zs j x hx i v hv
  rw [hz] at hc
  have hlt := (List.getElem?_eq_some_iff.1 hc).1
  rw [Nat.zero_add]
  exact (h.cell _ rfl _ v (by rw [List.getElem?_append_left hlt]; exact hc)).1
theorem isT_box0 {α : Type} {n : Nat} {enc : α → List Value} (hl : ∀ x, (enc x).length = n) {w : World} {b : Nat} {cs : List Value} {zs : List α} {len : Nat} (h : BoxAt w b (.cells cs)) (hz : zs.flatMap enc = cs) (hn : zs.length = len) : IsT n enc w (some ⟨b, 0, none⟩) len zs :=
  isT_box (sp := []) hl (by simpa using h) hz hn
theorem Sta.at {E : Cfg} {U : Snaps} {L : Boxes} {w : World} (h : Sta E U L w) (i : Nat) {b : Nat} {c : Cont} (hi : L[i]? = some (b, c)) : BoxAt w b c := (h.box i b c hi).2
/-- a list that lay there at a snapshot -/
theorem Sta.isT {α : Type} {n : Nat} {enc : α → List Value} {E : Cfg} {U : Snaps} {L : Boxes} {w : World} (h : Sta E U L w) {lo : Nat} {u : World} (hu : (lo, u) ∈ U) {A : Option Addr} {len : Nat} {zs : List α} (hz : IsT n enc u A len zs)
    (hA : ∀ b o, A = some ⟨b, o, none⟩ → lo ≤ b ∨ b < E.w.heap.size ∧ b ∉ E.lent) : IsT n enc w A len zs :=
  ⟨hz.1, fun h0 => by
    obtain ⟨b, o, e, h1, h2⟩ := hz.2 h0
    have hk : w.heap[b]? = u.heap[b]? := h.old hu (by rcases hA b o e with g | g; exact Or.inl ⟨g, h1⟩; exact Or.inr g)
    refine ⟨b, o, e, ?_, fun j x hx i v hv => ?_⟩
    · have := (h.snap lo u hu).2.2.1; omega
    · rw [World.cell?_of_block (w := u) (w' := w) (a := ⟨b, _, none⟩) hk]; exact h2 j x hx i v hv⟩
/-- a machine's lists lie in blocks that are new since w -/
structure NewM (w : World) (R : MachR) : Prop where
  a : ∀ b o, R.A = some ⟨b, o, none⟩ → w.heap.size ≤ b
  b : ∀ b o, R.B = some ⟨b, o, none⟩ → w.heap.size ≤ b
  c : ∀ b o, R.C = some ⟨b, o, none⟩ → w.heap.size ≤ b
  d : ∀ b o, R.D = some ⟨b, o, none⟩ → w.heap.size ≤ b
theorem NewM.mono {w v : World} {R : MachR} (h : NewM v R) (hz : w.heap.size ≤ v.heap.size) : NewM w R :=
  ⟨fun b o e => Nat.le_trans hz (h.a b o e), fun b o e => Nat.le_trans hz (h.b b o e), fun b o e => Nat.le_trans hz (h.c b o e), fun b o e => Nat.le_trans hz (h.d b o e)⟩
theorem Sta.new {n : Nat} {D : List Deferred} {w0 : World} {U : Snaps} {L : Boxes} {w : World} (h : Sta ⟨n, D, w0, []⟩ U L w) (i : Nat) {b : Nat} {c : Cont} (hi : L[i]? = some (b, c)) : ∀ b' o, some (⟨b, 0, none⟩ : Addr) = some ⟨b', o, none⟩ → w0.heap.size ≤ b' := fun b' o e => by
  cases e
  rcases (h.box i b c hi).1 with g | g
  · exact g
  · cases g
theorem Sta.isM {E : Cfg} {U : Snaps} {L : Boxes} {w : World} (h : Sta E U L w) {v u : World} (hu : (v.heap.size, u) ∈ U) {R : MachR} {M : MachD} (hM : IsM u R M) (hN : NewM v R) : IsM w R M :=
  ⟨h.isT hu hM.coils fun b o e => Or.inl (hN.a b o e), h.isT hu hM.shells fun b o e => Or.inl (hN.b b o e), h.isT hu hM.limits fun b o e => Or.inl (hN.c b o e), h.isT hu hM.sensors fun b o e => Or.inl (hN.d b o e), hM.la, hM.lb, hM.lc, hM.ld, hM.ca, hM.cb, hM.cc, hM.cd, hM.ka, hM.kb, hM.kc, hM.kd⟩
end Go.Proofs.Ytcdhanfjcnfjjaa
end
section
/- Abstract walking: lists that grow by append, nil at first or not; what is appended lies in an own box or elsewhere. -/
namespace Go.Proofs.Ytcdhanfjcnfjjaa
set_option linter.unusedVariables false
set_option linter.unusedSimpArgs false
set_option autoImplicit false
open Go.RowKit

/-- a grown list: nil still, or its block, its capacity and its spare cells -/
abbrev Gr := Option (Nat × Nat × List Value)
def gA (o : Gr) : Option Addr := match o with | none => none | some (b, _, _) => some ⟨b, 0, none⟩
def gC (o : Gr) : Nat := match o with | none => 0 | some (_, c, _) => c
def gt (o : Gr) (cs : List Value) : Boxes := match o with | none => [] | some (b, _, sp) => [(b, .cells (cs ++ sp))]
structure gok (o : Gr) (n z : Nat) (cs : List Value) : Prop where
  len : cs.length = n * z
  nil : o = none → n = 0
  own : ∀ b c sp, o = some (b, c, sp) → n ≤ c ∧ c ≤ 9223372036854775807 ∧ sp.length = (c - n) * z
theorem gok.none (z : Nat) : gok none 0 z [] := ⟨by simp, fun _ => rfl, fun _ _ _ h => by cases h⟩
theorem gok.some {o : Gr} {n z : Nat} {cs : List Value} (h : gok o n z cs) (h0 : 0 < n) : ∃ b c sp, o = some (b, c, sp) := by
  rcases o with _ | ⟨b, c, sp⟩
  · have := h.nil rfl; omega
  · exact ⟨b, c, sp, rfl⟩
theorem gok.le {o : Gr} {n z : Nat} {cs : List Value} (h : gok o n z cs) : n ≤ gC o ∧ gC o ≤ 9223372036854775807 := by
  rcases o with _ | ⟨b, c, sp⟩
  · have := h.nil rfl; exact ⟨by simp [gC, this], by simp [gC]⟩
  · have := h.own b c sp rfl; exact ⟨this.1, this.2.1⟩
/-- L is L1 and G behind it -/
inductive Tl : Boxes → Boxes → Boxes → Prop
  | z {G : Boxes} : Tl [] G G
  | s {x : Nat × Cont} {L1 G L : Boxes} (h : Tl L1 G L) : Tl (x :: L1) G (x :: L)
theorem Tl.eq {L1 G L : Boxes} (h : Tl L1 G L) : L = L1 ++ G := by
  induction h with
  | z => rfl
  | s _ ih => rw [ih]; rfl

theorem apart_pair {L : Boxes} : (∀ (i j b : Nat) (cs cs' : Cont), L[i]? = some (b, cs) → L[j]? = some (b, cs') → i = j) ↔ L.Pairwise (fun x y => x.1 ≠ y.1) := by
  rw [List.pairwise_iff_getElem]
  constructor
  · intro h i j hi hj hij he
    have h1 : L[i]? = some (L[i].1, L[i].2) := List.getElem?_eq_getElem hi
    have h2 : L[j]? = some (L[i].1, L[j].2) := by rw [List.getElem?_eq_getElem hj, he]
    have := h i j _ _ _ h1 h2
    omega
  · intro h i j b cs cs' hi hj
    obtain ⟨li, ei⟩ := List.getElem?_eq_some_iff.1 hi
    obtain ⟨lj, ej⟩ := List.getElem?_eq_some_iff.1 hj
    rcases Nat.lt_trichotomy i j with g | g | g
    · exact absurd (by rw [ei, ej]) (h i j li lj g)
    · exact g
    · exact absurd (by rw [ei, ej]) (h j i lj li g)
theorem Sta.perm {E : Cfg} {U : Snaps} {L L' : Boxes} {w : World} (h : Sta E U L w) (hp : L.Perm L') : Sta E U L' w := by
  have mem : ∀ (i b : Nat) (cs : Cont), L'[i]? = some (b, cs) → ∃ j, L[j]? = some (b, cs) := fun i b cs hi => by
    have := hp.mem_iff.2 (List.mem_of_getElem? hi)
    exact List.getElem?_of_mem this
  refine ⟨h.chg, fun i b cs hi => ?_, ?_, fun lo u hu => ?_⟩
  · obtain ⟨j, hj⟩ := mem i b cs hi; exact h.box j b cs hj
  · have h1 := apart_pair.1 h.apart
    exact apart_pair.2 ((hp.pairwise_iff (fun {x y} hxy => Ne.symm hxy)).1 h1)
  · obtain ⟨a, b, c, d, e, f⟩ := h.snap lo u hu
    exact ⟨a, b, c, d, e, fun i b cs hi => by obtain ⟨j, hj⟩ := mem i b cs hi; exact f j b cs hj⟩

theorem Sta.front {E : Cfg} {U : Snaps} {L L1 G : Boxes} {w : World} (h : Sta E U L w) (hT : Tl L1 G L) : Sta E U L1 w := by
  have hL := hT.eq
  have up : ∀ (i b : Nat) (cs : Cont), L1[i]? = some (b, cs) → L[i]? = some (b, cs) := fun i b cs hi => by
    rw [hL, List.getElem?_append_left (List.getElem?_eq_some_iff.1 hi).1]; exact hi
  exact ⟨h.chg, fun i b cs hi => h.box i b cs (up i b cs hi), fun i j b cs cs' hi hj => h.apart i j b cs cs' (up i b cs hi) (up j b cs' hj), fun lo u hu => by
    obtain ⟨a, b, c, d, e, f⟩ := h.snap lo u hu
    exact ⟨a, b, c, d, e, fun i b cs hi => f i b cs (up i b cs hi)⟩⟩
theorem ac_drawF {P : Program} {e0 : Cfg} {U : Snaps} {l : Slots} {L L1 G : Boxes} {Q : Exit → Act → World → Prop} {id : Nat} {os : List Oper} (last : Nat) (hT : Tl L1 G L) (hm : P.follows .mixedOrders = true) (hok : lastOk os.toArray last = true) (k : AH P os.toArray Q U L1 last os.toArray.size (Array.replicate os.toArray.size false) e0 U l L) : AC P e0 U l L (.region id os.toArray true) Q :=
  fun a w hf hs => wp_region_any hm (wpAny_of_G _ _ _ _ (k hok (DrawnTo.start _ _) a _ hf hs.drew))

section
variable {P : Program} {e0 : Cfg} {U : Snaps} {l : Slots} {L : Boxes} {ops : Array Oper} {Q : Exit → Act → World → Prop} {rest : List Oper} {d : Nat} {v : Value}
variable {ty : TypeId} {pos : String} {af : Array Edge} {g : Option (Nat × Bool)} {dd : Option Nat}

/-- what is appended: m items, these cells -/
structure Sor (e0 : Cfg) (U : Snaps) (L : Boxes) (z : Nat) (y : Value) (m : Nat) (vs : List Value) : Prop where
  len : vs.length = m * z
  one : vs.all (fun u => u.oneCell') = true
  val : ∃ (yA : Option Addr) (c : Nat), y = .slice yA m c ∧ ∀ w, Sta e0 U L w → 0 < m → ∃ A, yA = some A ∧ ∀ j u, vs[j]? = some u → w.cell? (A.add j) = some u
/-- out of an own box that holds just these -/
theorem Sor.box {z m c j bs : Nat} {vs : List Value} (hj : L[j]? = some (bs, .cells vs)) (hl : vs.length = m * z) (h1 : vs.all (fun u => u.oneCell') = true) : Sor e0 U L z (.slice (some ⟨bs, 0, none⟩) m c) m vs :=
  ⟨hl, h1, _, _, rfl, fun w hs _ => ⟨_, rfl, fun i u hu => by rw [addr_add, Nat.zero_add]; exact hs.cell hj hu⟩⟩
/-- a list that lies elsewhere -/
theorem Sor.list {α : Type} {z m c : Nat} {A : Option Addr} {enc : α → List Value} {zs : List α} (hlen : ∀ x, (enc x).length = z) (h1 : ∀ x, (enc x).all (fun u => u.oneCell') = true) (hz : zs.length = m) (h : ∀ w, Sta e0 U L w → IsT z enc w A m zs) :
    Sor e0 U L z (.slice A m c) m (zs.flatMap enc) := by
  refine ⟨?_, ?_, _, _, rfl, fun w hs h0 => ?_⟩
  · subst hz
    clear h
    induction zs with
    | nil => simp
    | cons x r ih => rw [List.flatMap_cons, List.length_append, hlen, ih, List.length_cons, Nat.add_mul]; omega
  · clear h hz
    induction zs with
    | nil => rfl
    | cons x r ih => rw [List.flatMap_cons, List.all_append, h1, ih]; rfl
  · obtain ⟨b, o, e, h2, h3⟩ := (h w hs).2 h0
    refine ⟨_, e, fun j u hu => ?_⟩
    rw [addr_add]
    have key : ∀ (ys : List α) (k j : Nat) (u : Value), (ys.flatMap enc)[j]? = some u → (∀ i x, ys[i]? = some x → zs[k + i]? = some x) → w.cell? ⟨b, o + (k * z + j), none⟩ = some u := by
      intro ys
      induction ys with
      | nil => intro k j u hu _; simp at hu
      | cons y r ih =>
        intro k j u hu hk
        rw [List.flatMap_cons] at hu
        rcases Nat.lt_or_ge j z with g | g
        · rw [List.getElem?_append_left (by rw [hlen]; exact g)] at hu
          have := h3 k y (hk 0 y rfl) j u hu
          rw [← Nat.add_assoc]; exact this
        · rw [List.getElem?_append_right (by rw [hlen]; exact g), hlen] at hu
          have := ih (k + 1) (j - z) u hu (fun i x hx => by rw [Nat.add_assoc, Nat.add_comm 1 i]; exact hk (i + 1) x hx)
          rw [Nat.add_mul] at this
          rw [show k * z + j = k * z + 1 * z + (j - z) by omega]; exact this
    have := key zs 0 j u hu (fun i x hx => by simpa using hx)
    simpa using this

theorem al_grow {t e z bytes n m : Nat} {zv : Value} {o : Gr} {cs vs : List Value} {L1 G : Boxes} {y : Value} {ox oy : Operand} (hx : E l ox = some (.slice (gA o) n (gC o))) (hy : E l oy = some y) (hT : Tl L1 (gt o cs ++ G) L) (hg : gok o n z cs) (hs : Sor e0 U L z y m vs)
    (hu : P.underlying t = some (.slice e)) (hinfo : (P.info? e).map (fun i => (i.zero, i.size, i.bytes)) = some (some zv, z, bytes)) (hzv : zv.cells.size = z) (hm : n + m ≤ 1000000) (hb : bytes ≤ 10000)
    (hn : Nat.blt d e0.n = true) (hw : want ops l g = some true)
    (k : ∀ o', gok o' (n + m) z (cs ++ vs) → ∃ L', Tl L1 (gt o' (cs ++ vs) ++ G) L' ∧ AL P ops Q e0 U ((d, .slice (gA o') (n + m) (gC o')) :: l) L' rest) :
    AL P ops Q e0 U l L (⟨some d, .call ⟨.builtin .append, #[ox, oy], #[t, t]⟩, ty, pos, af, g⟩ :: rest) :=
  al_run2 (K := True) hw rfl hn (fun a w hf hst => by
    obtain ⟨hl, h1, yA, c, rfl, hc⟩ := hs
    rcases Nat.eq_zero_or_pos m with h0 | h0
    · subst h0
      have hv : vs = [] := List.length_eq_zero_iff.1 (by simpa using hl)
      subst hv
      obtain ⟨ti, hti, hz, rfl, rfl⟩ := info_split hinfo
      have hsrc : Go.Src P ti.size t (.slice yA 0 c) 0 [] w := by
        cases yA with
        | none => exact Go.Src.ofNil w hu c
        | some A => exact Go.Src.ofSlice w hu A 0 c [] (by simp) (fun j u h => by simp at h) (fun u h => by cases h)
      have hr := run_append_nothing (P := P) w t t ty e ti hu hti (gA o) n (gC o) hg.le.1 _ hsrc
      obtain ⟨L', hL', hk⟩ := k o (by simpa using hg)
      have e1 : L' = L := by rw [hL'.eq, hT.eq]; simp
      exact ⟨_, w, U, L', ex_append (hf.ev hx) (hf.ev hy) hr, by rw [e1]; exact hst, hk⟩
    · obtain ⟨A, rfl, hA⟩ := hc w hst h0
      rcases o with _ | ⟨b, cap, sp⟩
      · have hn0 := hg.nil rfl
        subst hn0
        have hcs : cs = [] := List.length_eq_zero_iff.1 (by simpa using hg.len)
        subst hcs
        have eL : L = L1 ++ G := by rw [hT.eq]; simp [gt]
        obtain ⟨b', cap', sp', w', hr, h2, h3, h4, hst'⟩ := run_appendNil (A := A) (c := c) ty hu hinfo hzv hst hl hA h0 (by omega) hb
        obtain ⟨L', hL', hk⟩ := k (some (b', cap', sp')) ⟨by simpa using hl, fun e => by (cases e), fun b c sp e => by cases e; rw [Nat.zero_add]; exact ⟨h2, h3, h4⟩⟩
        have e1 : ((0 : Nat) + m) = m := Nat.zero_add m
        rw [e1] at hk
        refine ⟨_, w', U, L', ex_append (hf.ev hx) (hf.ev hy) hr, ?_, hk⟩
        rw [hL'.eq]
        refine hst'.perm ?_
        rw [eL]
        show ((b', Cont.cells (vs ++ sp')) :: (L1 ++ G)).Perm (L1 ++ ((b', Cont.cells ([] ++ vs ++ sp')) :: G))
        rw [List.nil_append]
        exact List.perm_middle.symm
      · obtain ⟨g1, g2, g3⟩ := hg.own b cap sp rfl
        have hL := hT.eq
        have hi : L[L1.length]? = some (b, .cells (cs ++ sp)) := by rw [hL]; simp [gt]
        obtain ⟨b', cap', sp', w', hr, h2, h3, h4, hst'⟩ := run_appendBox (A := A) (c := c) ty hu hinfo hzv hst hi hg.len g3 g1 g2 hl hA (by simpa using h1) hm hb
        obtain ⟨L', hL', hk⟩ := k (some (b', cap', sp')) ⟨by rw [List.length_append, hg.len, hl, Nat.add_mul], fun e => by (cases e), fun b c sp e => by cases e; exact ⟨h2, h3, h4⟩⟩
        refine ⟨_, w', U, L', ex_append (hf.ev hx) (hf.ev hy) hr, ?_, hk⟩
        rw [hL'.eq]
        have e2 : L.set L1.length (b', .cells ((cs ++ vs) ++ sp')) = L1 ++ (gt (some (b', cap', sp')) (cs ++ vs) ++ G) := by
          rw [hL, List.set_append_right _ _ (Nat.le_refl _)]; simp [gt]
        rw [← e2]; exact hst')
end
/-- a list that a callee has made: nil, or in a block that is new -/
structure NewT {α : Type} (z : Nat) (enc : α → List Value) (B : Nat) (w : World) (A : Option Addr) (n c : Nat) (zs : List α) : Prop where
  isT : IsT z enc w A n zs
  new : ∀ b off, A = some ⟨b, off, none⟩ → B ≤ b
  le : n ≤ c ∧ c ≤ 9223372036854775807
theorem Sta.grown {α : Type} {z n N : Nat} {D : List Deferred} {enc : α → List Value} (hlen : ∀ x, (enc x).length = z) {w0 w : World} {U : Snaps} {L : Boxes} {o : Gr} {cs : List Value} {zs : List α} (h : Sta ⟨N, D, w0, []⟩ U L w) (hT : ∀ x ∈ gt o cs, x ∈ L) (hg : gok o n z cs)
    (hz : zs.flatMap enc = cs) (hn : zs.length = n) : NewT z enc w0.heap.size w (gA o) n (gC o) zs := by
  refine ⟨?_, fun b off e => ?_, hg.le⟩
  · rcases o with _ | ⟨b, c, sp⟩
    · have := hg.nil rfl
      exact ⟨hn, fun h0 => by omega⟩
    · obtain ⟨i, hi⟩ := List.getElem?_of_mem (hT (b, .cells (cs ++ sp)) (by simp [gt]))
      exact isT_box hlen (h.at _ hi) hz hn
  · rcases o with _ | ⟨b', c, sp⟩
    · cases e
    · obtain ⟨i, hi⟩ := List.getElem?_of_mem (hT (b', .cells (cs ++ sp)) (by simp [gt]))
      have := (h.box _ _ _ hi).1
      cases e
      rcases this with g | g
      · exact g
      · cases g
/-- ints as cells -/
theorem flat_int : ∀ l : List Int, l.flatMap intCells = l.map (Value.int .i64)
  | [] => rfl
  | x :: l => by rw [List.flatMap_cons, flat_int l]; rfl
/-- it still lies there, behind whatever came -/
theorem Sta.newT {α : Type} {z n c : Nat} {enc : α → List Value} {E : Cfg} {U : Snaps} {L : Boxes} {w u : World} {lo : Nat} {A : Option Addr} {zs : List α} (h : Sta E U L w) (hu : (lo, u) ∈ U) (hN : NewT z enc lo u A n c zs) : IsT z enc w A n zs :=
  h.isT hu hN.isT fun b o e => Or.inl (hN.new b o e)
end Go.Proofs.Ytcdhanfjcnfjjaa
end
section
/- Abstract walking: a struct's field, a list's piece, make with room, stores at a place of a made list. -/
namespace Go.Proofs.Ytcdhanfjcnfjjaa
set_option linter.unusedVariables false
set_option linter.unusedSimpArgs false
set_option autoImplicit false
open Go.RowKit

section
variable {P : Program} {e0 : Cfg} {U : Snaps} {l : Slots} {L : Boxes} {ops : Array Oper} {Q : Exit → Act → World → Prop} {rest : List Oper} {d : Nat} {v : Value}
variable {ty : TypeId} {pos : String} {af : Array Edge} {g : Option (Nat × Bool)} {dd : Option Nat}

/-- a drawn region of which only the boxes behind the first k are held -/
theorem ac_drawK {L0 : Boxes} {id : Nat} {os : List Oper} (k last : Nat) (hL : L.drop k = L0) (hm : P.follows .mixedOrders = true) (hok : lastOk os.toArray last = true) (h : AH P os.toArray Q U L0 last os.toArray.size (Array.replicate os.toArray.size false) e0 U l L) : AC P e0 U l L (.region id os.toArray true) Q :=
  fun a w hf hs => wp_region_any hm (wpAny_of_G _ _ _ _ (h hok (DrawnTo.start _ _) a _ hf hs.drew))
theorem IsT.piece {α : Type} {z : Nat} {enc : α → List Value} {w : World} {len b o : Nat} {zs : List α} (h : IsT z enc w (some ⟨b, o, none⟩) len zs) {lo n : Nat} (hl : lo + n ≤ len) : IsT z enc w (some ⟨b, o + lo * z, none⟩) n ((zs.drop lo).take n) := by
  refine ⟨by rw [List.length_take, List.length_drop, h.1]; omega, fun h0 => ?_⟩
  obtain ⟨b', o', e, h1, h2⟩ := h.2 (by omega)
  cases e
  refine ⟨_, _, rfl, h1, fun j x hx i v hv => ?_⟩
  have hj : j < n := by
    have := (List.getElem?_eq_some_iff.1 hx).1
    rw [List.length_take] at this; omega
  rw [List.getElem?_take_of_lt hj, List.getElem?_drop] at hx
  have := h2 (lo + j) x hx i v hv
  rw [Nat.add_mul] at this
  rw [← this]; congr 2; omega
theorem SetAt.ofSet {α : Type} : ∀ {n : Nat} {x : α} {l : List α}, n < l.length → SetAt n x l (l.set n x)
  | 0, x, y :: l, _ => .z
  | n + 1, x, y :: l, h => .s (SetAt.ofSet (by simpa using h))
end
theorem Sta.cellOf {E : Cfg} {U : Snaps} {L : Boxes} {w u : World} {lo b k : Nat} {v : Value} (h : Sta E U L w) (hu : (lo, u) ∈ U) (hlo : lo ≤ b) (hlt : b < u.heap.size) (hc : u.cell? ⟨b, k, none⟩ = some v) : w.cell? ⟨b, k, none⟩ = some v := by
  obtain ⟨s0, s1, s2, s3, s4, -⟩ := h.snap _ _ hu
  rw [World.cell?_of_block (w := u) (w' := w) (a := ⟨b, _, none⟩) (s3 b hlo hlt)]; exact hc
end Go.Proofs.Ytcdhanfjcnfjjaa
end
section
/- The specification of layer 7: Errors, its list new, over this seat's translation (written by ax_cp.py). -/
namespace Go.Proofs.Ytcdhanfjcnfjjaa
set_option linter.unusedVariables false
set_option linter.unusedSimpArgs false
open Go.RowKit

theorem errL_ok {gr gz : Int} {s : ShapeD} (hg : goalB gr gz = true) (hs : okS s = true) : errL gr gz s = if (vld (gr - s.b0) (gr - s.a0) && vld (gz - s.b1) (gz - s.a1)) = true then (gr - s.b0, gr - s.a0, gz - s.b1, gz - s.a1, 0) else (0, 0, 0, 0, 9) := by
  obtain ⟨v1, v2, -, -⟩ := goalB_vld hg
  obtain ⟨v3, v4⟩ := okS_parts hs
  have o3 := (vld_iff.1 v3)
  have o4 := (vld_iff.1 v4)
  have e1 : subL gr gr s.a0 s.b0 = makeL (gr - s.b0) (gr - s.a0) := by unfold subL; rw [v1, v3]; rfl
  have e2 : subL gz gz s.a1 s.b1 = makeL (gz - s.b1) (gz - s.a1) := by unfold subL; rw [v2, v4]; rfl
  unfold errL
  rw [if_pos hg, if_pos hs, e1, e2]
  unfold makeL
  rw [Int.min_eq_left (by omega : gr - s.b0 ≤ gr - s.a0), Int.max_eq_right (by omega : gr - s.b0 ≤ gr - s.a0), Int.min_eq_left (by omega : gz - s.b1 ≤ gz - s.a1), Int.max_eq_right (by omega : gz - s.b1 ≤ gz - s.a1)]
  cases h1 : vld (gr - s.b0) (gr - s.a0) <;> cases h2 : vld (gz - s.b1) (gz - s.a1) <;> simp

theorem cpe_bl_apiSpan_0_1 (a0 a1 : Value) (ha0 : a0.oneCell' = true) (ha1 : a1.oneCell' = true) : ∀ w, (Instr.build 38 #[(0, a0), (1, a1)]).run Try.prog w = .ok (.agg #[a0, a1]) w := by
  have ea0 : a0.cells = #[a0] := cells_one ha0
  have ea1 : a1.cells = #[a1] := cells_one ha1
  intro w; simp [Instr.build, Instr.fill, cells_agg, Try.runUnderlying38, Try.zeroValue38, Try.sizeOf3, ea0, ea1]

theorem cpe_bs_apiSpan_2_0_1 (c0_0 c0_1 c1_0 c1_1 : Value) : ∀ w, (Instr.buildSlice 43 2 #[(0, .agg #[c0_0, c0_1]), (1, .agg #[c1_0, c1_1])]).run Try.prog w = .ok (.slice (some ⟨w.heap.size, 0, none⟩) 2 2) (w.alloc (.cells [c0_0, c0_1, c1_0, c1_1].toArray 38)) := by
  intro w; (simp [Instr.buildSlice, Instr.fill, cells_agg, newRow, Try.runUnderlying43, Try.zeroValue38, Try.sizeOf38] <;> (rw [(by kernel_rfl : Array.range 4 = #[0, 1, 2, 3])]; simp [Value.cells]))

set_option maxRecDepth 100000 in
theorem rerrN_any (gr gz : Int) (s : ShapeD) (w : World) : Calls Try.prog 7 #[(.agg #[.int .i64 gr, .int .i64 gz]), s.v] w (fun e w' => ∃ A c, e = .returned (.tuple #[.slice A (errT gr gz s).length c, .int .i64 (errL gr gz s).2.2.2.2]) ∧ NewT 2 SpanD.cells w.heap.size w' A (errT gr gz s).length c (errT gr gz s) ∧ Below w.heap.size w w') := by
  refine calls_ax (vs := [(.agg #[.int .i64 gr, .int .i64 gz]), s.v]) Try.func7 rfl rfl ?_
  refine ac_seq ?_
  refine ac_region ?_
  refine al_new (fun b => .pointer (some ⟨b, 0, none⟩)) (r_box rfl rfl) rfl rfl rfl ?_
  intro b1
  refine al_new (fun b => .pointer (some ⟨b, 0, none⟩)) (r_box rfl rfl) rfl rfl rfl ?_
  intro b2
  refine al_q (q_assign rfl) rfl rfl rfl ?_
  refine al_q (q_assign rfl) rfl rfl rfl ?_
  refine al_end ?_
  refine aq_then ?_
  refine ac_seq ?_
  refine ac_seq ?_
  refine ac_region ?_
  refine al_q (q_loadAll (i := 1) rfl rfl Try.isAgg36 Try.sizeOf36 rfl) rfl rfl rfl ?_
  refine al_call Try.call17 (.cons rfl .nil) rfl rfl (fun w1 hs1 => ?_)
  refine (rgoal_any gr gz _).mono ?_
  rintro e u1 ⟨rfl, hb_1⟩
  refine ⟨_, rfl, hb_1, ?_⟩
  clear hs1
  refine al_q (q_not rfl) rfl rfl rfl ?_
  refine al_q (q_move rfl) rfl rfl rfl ?_
  refine aq_split 11 rfl (fun hb1 => ?_) (fun hb1 => ?_)
  · have hgo : goalB gr gz = false := by simpa using hb1
    refine al_skip rfl rfl rfl ?_
    refine al_skip rfl rfl rfl ?_
    refine al_skip rfl rfl rfl ?_
    refine al_q (q_pickT rfl rfl) rfl rfl rfl ?_
    refine al_end ?_
    refine aq_then ?_
    refine ac_condT rfl ?_
    refine ac_seq ?_
    refine ac_region ?_
    refine al_q (q_assign rfl) rfl rfl rfl ?_
    refine al_q (q_assign rfl) rfl rfl rfl ?_
    refine al_end ?_
    refine aq_then ?_
    refine ac_ret ?_
    refine aq_thenR ?_
    refine ret2 Try.results7 rfl rfl (fun w9 hs => ?_)
    have he : errL gr gz s = (0, 0, 0, 0, 1) := by unfold errL; rw [if_neg (by rw [hgo]; decide)]
    have ht : errT gr gz s = [] := by simp [errT, he]
    exact ⟨none, 0, by rw [ht, he]; rfl, by rw [ht]; exact ⟨IsT.nil _ _ _ _, fun b off e => (by cases e), Nat.le_refl _, by omega⟩, hs.below⟩
  · have hgo : goalB gr gz = true := by simpa using hb1
    obtain ⟨-, -, g1, g2⟩ := goalB_vld hgo
    refine al_q (q_loadAll (i := 0) rfl rfl Try.isAgg40 Try.sizeOf40 rfl) rfl rfl rfl ?_
    refine al_call Try.call18 (.cons rfl .nil) rfl rfl (fun w2 hs2 => ?_)
    refine (rvalidShape_any s _).mono ?_
    rintro e u2 ⟨rfl, hb_2⟩
    refine ⟨_, rfl, hb_2, ?_⟩
    clear hs2
    refine al_q (q_not rfl) rfl rfl rfl ?_
    refine al_q (q_pickF rfl rfl) rfl rfl rfl ?_
    refine al_end ?_
    refine aq_then ?_
    refine ac_cond rfl (fun h1 => ?_) (fun h1 => ?_)
    · have hso : okS s = false := by simpa using h1
      refine ac_seq ?_
      refine ac_region ?_
      refine al_q (q_assign rfl) rfl rfl rfl ?_
      refine al_q (q_assign rfl) rfl rfl rfl ?_
      refine al_end ?_
      refine aq_then ?_
      refine ac_ret ?_
      refine aq_thenR ?_
      refine ret2 Try.results7 rfl rfl (fun w9 hs => ?_)
      have he : errL gr gz s = (0, 0, 0, 0, 1) := by unfold errL; rw [if_pos hgo, if_neg (by rw [hso]; decide)]
      have ht : errT gr gz s = [] := by simp [errT, he]
      exact ⟨none, 0, by rw [ht, he]; rfl, by rw [ht]; exact ⟨IsT.nil _ _ _ _, fun b off e => (by cases e), Nat.le_refl _, by omega⟩, hs.below⟩
    · have hso : okS s = true := by simpa using h1
      obtain ⟨v3, v4⟩ := okS_parts hso
      have o3 := vld_iff.1 v3
      have o4 := vld_iff.1 v4
      refine ac_skip ?_
      refine aq_then ?_
      refine ac_seq ?_
      refine ac_region ?_
      refine al_q (q_fieldAddr 0 rfl Try.runUnderlying36 rfl Try.sizeOf3 (by decide) rfl) rfl rfl rfl ?_
      refine al_q (q_load (i := 1) rfl rfl rfl Try.isAgg3) rfl rfl rfl ?_
      refine al_q (q_fieldAddr 0 rfl Try.runUnderlying40 rfl Try.sizeOf38 (by decide) rfl) rfl rfl rfl ?_
      refine al_q (q_fieldAddr 1 rfl Try.runUnderlying38 rfl Try.sizeOf3 (by decide) rfl) rfl rfl rfl ?_
      refine al_q (q_load (i := 0) rfl rfl rfl Try.isAgg3) rfl rfl rfl ?_
      refine al_q (q_sub rfl rfl (by omega)) rfl rfl rfl ?_
      refine al_q (q_fieldAddr 0 rfl Try.runUnderlying36 rfl Try.sizeOf3 (by decide) rfl) rfl rfl rfl ?_
      refine al_q (q_load (i := 1) rfl rfl rfl Try.isAgg3) rfl rfl rfl ?_
      refine al_q (q_fieldAddr 0 rfl Try.runUnderlying40 rfl Try.sizeOf38 (by decide) rfl) rfl rfl rfl ?_
      refine al_q (q_fieldAddr 0 rfl Try.runUnderlying38 rfl Try.sizeOf3 (by decide) rfl) rfl rfl rfl ?_
      refine al_q (q_load (i := 0) rfl rfl rfl Try.isAgg3) rfl rfl rfl ?_
      refine al_q (q_sub rfl rfl (by omega)) rfl rfl rfl ?_
      refine al_q (q_build (.cons rfl (.cons rfl .nil)) (cpe_bl_apiSpan_0_1 _ _ rfl rfl)) rfl rfl rfl ?_
      refine al_new (fun b => .pointer (some ⟨b, 0, none⟩)) (r_alloc Try.zeroValue38 rfl) rfl rfl rfl ?_
      intro b3
      refine al_storeAll (i := 0) rfl rfl rfl rfl Try.sizeOf38 rfl rfl .k0 rfl ?_
      refine al_end ?_
      refine aq_then ?_
      refine ac_seq ?_
      refine ac_region ?_
      refine al_q (q_fieldAddr 1 rfl Try.runUnderlying36 rfl Try.sizeOf3 (by decide) rfl) rfl rfl rfl ?_
      refine al_q (q_load (i := 2) rfl rfl rfl Try.isAgg3) rfl rfl rfl ?_
      refine al_q (q_fieldAddr 2 rfl Try.runUnderlying40 rfl Try.sizeOf38 (by decide) rfl) rfl rfl rfl ?_
      refine al_q (q_fieldAddr 3 rfl Try.runUnderlying38 rfl Try.sizeOf3 (by decide) rfl) rfl rfl rfl ?_
      refine al_q (q_load (i := 1) rfl rfl rfl Try.isAgg3) rfl rfl rfl ?_
      refine al_q (q_sub rfl rfl (by omega)) rfl rfl rfl ?_
      refine al_q (q_fieldAddr 1 rfl Try.runUnderlying36 rfl Try.sizeOf3 (by decide) rfl) rfl rfl rfl ?_
      refine al_q (q_load (i := 2) rfl rfl rfl Try.isAgg3) rfl rfl rfl ?_
      refine al_q (q_fieldAddr 2 rfl Try.runUnderlying40 rfl Try.sizeOf38 (by decide) rfl) rfl rfl rfl ?_
      refine al_q (q_fieldAddr 2 rfl Try.runUnderlying38 rfl Try.sizeOf3 (by decide) rfl) rfl rfl rfl ?_
      refine al_q (q_load (i := 1) rfl rfl rfl Try.isAgg3) rfl rfl rfl ?_
      refine al_q (q_sub rfl rfl (by omega)) rfl rfl rfl ?_
      refine al_q (q_build (.cons rfl (.cons rfl .nil)) (cpe_bl_apiSpan_0_1 _ _ rfl rfl)) rfl rfl rfl ?_
      refine al_new (fun b => .pointer (some ⟨b, 0, none⟩)) (r_alloc Try.zeroValue38 rfl) rfl rfl rfl ?_
      intro b4
      refine al_storeAll (i := 0) rfl rfl rfl rfl Try.sizeOf38 rfl rfl .k0 rfl ?_
      refine al_end ?_
      refine aq_then ?_
      refine ac_seq ?_
      refine ac_seq ?_
      refine ac_region ?_
      refine al_q (q_loadAll (i := 1) rfl rfl Try.isAgg38 Try.sizeOf38 rfl) rfl rfl rfl ?_
      refine al_call Try.call19 (.cons rfl .nil) rfl rfl (fun w3 hs3 => ?_)
      refine (rvalid_any (gr - s.b0) (gr - s.a0) _).mono ?_
      rintro e u3 ⟨rfl, hb_3⟩
      refine ⟨_, rfl, hb_3, ?_⟩
      clear hs3
      refine al_q (q_not rfl) rfl rfl rfl ?_
      refine al_q (q_move rfl) rfl rfl rfl ?_
      refine aq_split 45 rfl (fun hb2 => ?_) (fun hb2 => ?_)
      · have hv1 : vld (gr - s.b0) (gr - s.a0) = false := by simpa using hb2
        refine al_skip rfl rfl rfl ?_
        refine al_skip rfl rfl rfl ?_
        refine al_skip rfl rfl rfl ?_
        refine al_q (q_pickT rfl rfl) rfl rfl rfl ?_
        refine al_end ?_
        refine aq_then ?_
        refine ac_condT rfl ?_
        refine ac_seq ?_
        refine ac_region ?_
        refine al_q (q_assign rfl) rfl rfl rfl ?_
        refine al_q (q_assign rfl) rfl rfl rfl ?_
        refine al_end ?_
        refine aq_then ?_
        refine ac_ret ?_
        refine aq_thenR ?_
        refine ret2 Try.results7 rfl rfl (fun w9 hs => ?_)
        have he : errL gr gz s = (0, 0, 0, 0, 9) := by rw [errL_ok hgo hso, hv1]; rfl
        have ht : errT gr gz s = [] := by simp [errT, he]
        exact ⟨none, 0, by rw [ht, he]; rfl, by rw [ht]; exact ⟨IsT.nil _ _ _ _, fun b off e => (by cases e), Nat.le_refl _, by omega⟩, hs.below⟩
      · have hv1 : vld (gr - s.b0) (gr - s.a0) = true := by simpa using hb2
        refine al_q (q_loadAll (i := 0) rfl rfl Try.isAgg38 Try.sizeOf38 rfl) rfl rfl rfl ?_
        refine al_call Try.call19 (.cons rfl .nil) rfl rfl (fun w4 hs4 => ?_)
        refine (rvalid_any (gz - s.b1) (gz - s.a1) _).mono ?_
        rintro e u4 ⟨rfl, hb_4⟩
        refine ⟨_, rfl, hb_4, ?_⟩
        clear hs4
        refine al_q (q_not rfl) rfl rfl rfl ?_
        refine al_q (q_pickF rfl rfl) rfl rfl rfl ?_
        refine al_end ?_
        refine aq_then ?_
        refine ac_cond rfl (fun h2 => ?_) (fun h2 => ?_)
        · have hv2 : vld (gz - s.b1) (gz - s.a1) = false := by simpa using h2
          refine ac_seq ?_
          refine ac_region ?_
          refine al_q (q_assign rfl) rfl rfl rfl ?_
          refine al_q (q_assign rfl) rfl rfl rfl ?_
          refine al_end ?_
          refine aq_then ?_
          refine ac_ret ?_
          refine aq_thenR ?_
          refine ret2 Try.results7 rfl rfl (fun w9 hs => ?_)
          have he : errL gr gz s = (0, 0, 0, 0, 9) := by rw [errL_ok hgo hso, hv1, hv2]; rfl
          have ht : errT gr gz s = [] := by simp [errT, he]
          exact ⟨none, 0, by rw [ht, he]; rfl, by rw [ht]; exact ⟨IsT.nil _ _ _ _, fun b off e => (by cases e), Nat.le_refl _, by omega⟩, hs.below⟩
        · have hv2 : vld (gz - s.b1) (gz - s.a1) = true := by simpa using h2
          refine ac_skip ?_
          refine aq_then ?_
          refine ac_seq ?_
          refine ac_region ?_
          refine al_q (q_loadAll (i := 1) rfl rfl Try.isAgg38 Try.sizeOf38 rfl) rfl rfl rfl ?_
          refine al_q (q_loadAll (i := 0) rfl rfl Try.isAgg38 Try.sizeOf38 rfl) rfl rfl rfl ?_
          refine al_new (fun b => .slice (some ⟨b, 0, none⟩) 2 2) (r_buildSlice (.cons rfl (.cons rfl .nil)) (cpe_bs_apiSpan_2_0_1 _ _ _ _)) rfl rfl rfl ?_
          intro b5
          refine al_q (q_assign rfl) rfl rfl rfl ?_
          refine al_q (q_assign rfl) rfl rfl rfl ?_
          refine al_end ?_
          refine aq_then ?_
          refine ac_ret ?_
          refine ret2 Try.results7 rfl rfl (fun w9 hs => ?_)
          have he : errL gr gz s = (gr - s.b0, gr - s.a0, gz - s.b1, gz - s.a1, 0) := by rw [errL_ok hgo hso, hv1, hv2]; rfl
          have ht : errT gr gz s = [⟨gr - s.b0, gr - s.a0⟩, ⟨gz - s.b1, gz - s.a1⟩] := by simp [errT, he]
          exact ⟨some ⟨b5, 0, none⟩, 2, by rw [ht, he]; rfl, by rw [ht]; exact ⟨isT_box0 (n := 2) (enc := SpanD.cells) (fun _ => rfl) (hs.at 0 rfl) rfl rfl, fun b off e => hs.new 0 rfl b off e, Nat.le_refl _, by omega⟩, hs.below⟩

end Go.Proofs.Ytcdhanfjcnfjjaa
end
section
/- Rows that a loop fills, over this seat's translation (written by mk_bks.py). -/
namespace Go.Proofs.Ytcdhanfjcnfjjaa
set_option linter.unusedVariables false
set_option linter.unusedSimpArgs false
open Go.RowKit Go.Shelf

theorem fill_get (T : List Value) (n j : Nat) (z : Value) (hl : T.length = n) (hj : j < n) : (T.take j ++ List.replicate (n - j) z)[j]? = some z := by
  have h1 : (T.take j).length = j := by rw [List.length_take]; omega
  rw [List.getElem?_append_right (by omega), h1, Nat.sub_self, List.getElem?_replicate, if_pos (by omega)]
theorem fill_len (T : List Value) (n j : Nat) (z : Value) (hl : T.length = n) (hj : j ≤ n) : (T.take j ++ List.replicate (n - j) z).length = n := by
  rw [List.length_append, List.length_take, List.length_replicate]; omega
theorem fill_all (T : List Value) (n : Nat) (z : Value) (hl : T.length = n) : T.take n ++ List.replicate (n - n) z = T := by
  rw [Nat.sub_self, List.replicate_zero, List.append_nil, List.take_of_length_le (by omega)]
theorem fill_none (T : List Value) (n : Nat) (z : Value) : T.take 0 ++ List.replicate (n - 0) z = List.replicate n z := by
  rw [List.take_zero, List.nil_append, Nat.sub_zero]
/-- One more cell of a row is laid. -/
theorem RowL.fill {b : Nat} {T : List Value} {n j : Nat} {z v : Value} {W : World} (h : RowL b (T.take j ++ List.replicate (n - j) z) W) (hl : T.length = n) (hj : j < n) (hv : T[j]? = some v) : RowL b (T.take (j + 1) ++ List.replicate (n - (j + 1)) z) (W.setCell ⟨b, j, none⟩ v) := by
  have := h.put j v (by rw [fill_len T n j z hl (by omega)]; exact hj)
  rwa [fill_set T n j z v hl hv] at this

end Go.Proofs.Ytcdhanfjcnfjjaa
end
