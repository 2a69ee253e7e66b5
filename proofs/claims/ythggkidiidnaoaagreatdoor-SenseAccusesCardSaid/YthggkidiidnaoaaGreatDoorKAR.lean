import Derived.Test.YthggkidiidnaoaaGreatDoorKAM
import Derived.Test.YthggkidiidnaoaaGreatDoorKAQ
import Derived.RangeFuncNested
import Derived.RangeFuncLeaves
import Derived.RangeFuncBound
import Derived.Shelf.Strconv.Itoa0
import Derived.Shelf.Sort.Plain
import Derived.Ground.Names2Prog
import Derived.Shelf.Slices.Clone
import Derived.Shelf.Slices.In.SortNone
import Derived.Ground.SlgnProg
import Derived.Shelf.SlicesE.Clone
import Derived.Test.YthggkidiidnaoaaGreatDoorProg
import Derived.Laws.OwnMore
import Derived.Deep.OwnRows
section
namespace Go.Proofs.YthggkidiidnaoaaGreatDoor
set_option linter.unusedVariables false
set_option linter.unusedSimpArgs false
set_option autoImplicit false
open Go.RowKit
theorem Chg.trans {X : List Nat} {A B C : World} (h : Chg X A B) (k : Chg X B C) : Chg X A C :=
 ⟨k.os.trans h.os, k.tape.trans h.tape, k.output.trans h.output, Nat.le_trans h.size k.size, fun b hb hx => (k.block b (Nat.lt_of_lt_of_le hb h.size) hx).trans (h.block b hb hx)⟩
theorem Chg.mono {X Y : List Nat} {A B : World} (h : Chg X A B) (hX : ∀ x ∈ X, x ∈ Y) : Chg Y A B :=
 ⟨h.os, h.tape, h.output, h.size, fun b hb hy => h.block b hb (fun hx => hy (hX b hx))⟩
theorem Chg.putObj {W : World} {l : Nat} {o o' : Obj} (h : W.heap[l]? = some o) : Chg [l] W (W.putObj l o') :=
 ⟨rfl, rfl, rfl, by simp [World.putObj], fun b _ hb => World.putObj_heap_other (by simpa using hb)⟩
structure Mv (n0 : Nat) (Z : List Nat) (W W' : World) : Prop where
 os : W'.os = W.os
 tape : W'.tape = W.tape
 output : W'.output = W.output
 size : W.heap.size ≤ W'.heap.size
 block : ∀ b, b < W.heap.size → b ∉ Z → (b < n0 ∨ ∃ o : Obj, W.heap[b]? = some o ∧ o.isCells = true) → W'.heap[b]? = W.heap[b]?
theorem Mv.of_chg {n0 : Nat} {Z : List Nat} {W W' : World} (h : Chg Z W W') : Mv n0 Z W W' := ⟨h.os, h.tape, h.output, h.size, fun b hb hz _ => h.block b hb hz⟩
theorem Mv.low {n0 m0 : Nat} {Z : List Nat} {W W' : World} (h : Mv n0 Z W W') (hm : m0 ≤ n0) : Mv m0 Z W W' :=
 ⟨h.os, h.tape, h.output, h.size, fun b hb hz hc => h.block b hb hz (hc.imp (fun h => by omega) id)⟩
theorem Mv.trans {n0 : Nat} {Z : List Nat} {A B C : World} (h : Mv n0 Z A B) (k : Mv n0 Z B C) : Mv n0 Z A C :=
 ⟨k.os.trans h.os, k.tape.trans h.tape, k.output.trans h.output, Nat.le_trans h.size k.size, fun b hb hz hc => by
  have e := h.block b hb hz hc
  exact (k.block b (Nat.lt_of_lt_of_le hb h.size) hz (hc.imp id (fun ⟨o, ho, hk⟩ => ⟨o, e.trans ho, hk⟩))).trans e⟩
theorem Mv.putObj {n0 l : Nat} {Z : List Nat} {W : World} {o o' : Obj} (hl : n0 ≤ l) (h : W.heap[l]? = some o) (hc : o.isCells = false) : Mv n0 Z W (W.putObj l o') :=
 ⟨rfl, rfl, rfl, by simp [World.putObj], fun b hb _ hk => World.putObj_heap_other (fun e => by
  subst e
  rcases hk with g | ⟨o2, h2, g⟩
  ·omega
  ·rw [h] at h2; cases h2; rw [hc] at g; cases g)⟩
theorem IsT.keep {α : Type} {z n : Nat} {enc : α → List Value} {w w' : World} {A : Option Addr} {zs : List α} (h : IsT z enc w A n zs) (hs : w.heap.size ≤ w'.heap.size) (hk : ∀ b o, A = some ⟨b, o, none⟩ → 0 < n → w'.heap[b]? = w.heap[b]?) : IsT z enc w' A n zs :=
 ⟨h.1, fun h0 => by
  obtain ⟨b, o, e, h1, h2⟩ := h.2 h0
  exact ⟨b, o, e, Nat.lt_of_lt_of_le h1 hs, fun j x hx i v hv => (World.cell?_of_block (w := w) (w' := w') (a := ⟨b, _, none⟩) (hk b o e h0)).trans (h2 j x hx i v hv)⟩⟩
theorem IsT.mv {α : Type} {z n n0 : Nat} {Z : List Nat} {enc : α → List Value} {w w' : World} {A : Option Addr} {zs : List α} (hc : ∀ x, 0 < (enc x).length) (h : IsT z enc w A n zs) (hm : Mv n0 Z w w') (hz : ∀ b o, A = some ⟨b, o, none⟩ → b ∉ Z) : IsT z enc w' A n zs :=
 h.keep hm.size fun b o e h0 => by
  obtain ⟨b', o', e', h1, h2⟩ := h.2 h0
  rw [e] at e'; cases e'
  have hl : 0 < zs.length := by rw [h.1]; exact h0
  have hx := List.getElem?_eq_getElem hl
  have hv := List.getElem?_eq_getElem (hc zs[0])
  exact hm.block b h1 (hz b o e) (Or.inr (cells_of_cell (h2 0 _ hx 0 _ hv)))
theorem IsT.chg {α : Type} {z n : Nat} {X : List Nat} {enc : α → List Value} {w w' : World} {A : Option Addr} {zs : List α} (h : IsT z enc w A n zs) (hm : Chg X w w') (hz : ∀ b o, A = some ⟨b, o, none⟩ → b ∉ X) : IsT z enc w' A n zs :=
 h.keep hm.size fun b o e h0 => by
  obtain ⟨b', o', e', h1, h2⟩ := h.2 h0
  rw [e] at e'; cases e'
  exact hm.block b h1 (hz b o e)
theorem roundIn_n {n m : Nat} {P : Program} {l : Nat} {f : FuncId} {tmps : Array Value} {assign body : Code} {w : World} {R : Ending → World → Prop} (h : RoundIn Fence.wide n P l f tmps assign body w R) : RoundIn Fence.wide m P l f tmps assign body w R :=
 ⟨h.1, fun c cs _ => h.2 c cs (room_wide _)⟩
theorem callsIn_n {n m : Nat} {P : Program} {f : FuncId} {args : Array Value} {w : World} {R : Ending → World → Prop} (h : CallsIn Fence.wide n P f args w R) : CallsIn Fence.wide m P f args w R := callsIn_wide.2 (callsIn_wide.1 h)
def IterAll {α : Type} (P : Program) (gf : Nat) (lb : Array Value) (enc : α → Value) (Good : List Nat → Nat → α → World → Prop) (X : List Nat) (zl N : Nat) (w : World) : Prop :=
 ∀ (l : Nat) (J : List Nat → Nat → World → Prop) (W : World), Below w.heap.size w W → w.heap.size ≤ l → l < W.heap.size →
  (∀ Z k W1 W2, J Z k W1 → Mv W.heap.size Z W1 W2 → J Z k W2) →
  (∀ Z k x W1, k < N → J Z k W1 → Good Z k x W1 → YieldAt Fence.wide 0 P l #[enc x] W1 (fun e W2 => e = .returned (.bool true) ∧ J Z (k + 1) W2 ∧ Chg (l :: X) W1 W2)) →
  (∀ Z : List Nat, Z.length = zl → (∀ z ∈ Z, W.heap.size ≤ z) → J Z 0 W) →
  CallsIn Fence.wide 0 P gf (#[.func (.yield l) #[] #[]] ++ lb) W (fun e W' => (∃ v, e = .returned v) ∧ ∃ Z, J Z N W')
theorem wpIn_range_all {α : Type} {P : Program} {n : Nat} {g : Operand} {p : Tmp} {assign body : Code} {Q : Exit → Act → World → Prop} {a : Act} {w : World} {gf : Nat} {lb : Array Value} (hg : a.eval g = .func (.func gf) #[] lb) (eg : ∀ args w, (callFunc gf args).run P w = .ok (.enter gf args) w)
  {enc : α → Value} {Good : List Nat → Nat → α → World → Prop} {X : List Nat} {zl N : Nat} (hseq : IterAll P gf lb enc Good X zl N w) (I : List Nat → Nat → World → Prop)
  (hI : ∀ Z k W1 W2, I Z k W1 → Mv w.heap.size Z W1 W2 → I Z k W2) (h0 : ∀ Z : List Nat, Z.length = zl → (∀ z ∈ Z, w.heap.size < z) → I Z 0 w)
  (hround : ∀ (l : Nat) (Z : List Nat) (k : Nat) (x : α) (W : World), w.heap.size ≤ l → w.heap.size ≤ W.heap.size → I Z k W → Good Z k x W → k < N →
   assign.wpIn (Fence.wide.inRound l) 0 P (Exit.then (fun a1 W1 => Chg X W W1 ∧ ∀ W2, Mv w.heap.size [] W1 W2 → body.wpIn (Fence.wide.inRound l) 0 P (fun e a3 W3 => e = .normal ∧ I Z (k + 1) W3 ∧ Chg X W2 W3) a1 W2) (fun _ _ _ => False))
    { tmps := a.tmps.setIfInBounds p (enc x), defers := [] } W)
  (hXw : ∀ x ∈ X, x < w.heap.size)
  (hdone : ∀ (D : Nat) (Z : List Nat) (W : World), w.heap.size ≤ D → I Z N W → W.heap[D]? = some (.deferred (some [])) → Q .normal { a with defers := { target := .collected D, args := #[] } :: a.defers } W) :
  (Code.rangeFunc g #[p] assign body).wpIn Fence.wide n P Q a w := by
 refine wpIn_rangeFunc ?_
 intro fn hfn
 obtain ⟨rec, hrec⟩ : ∃ rec : LoopState → Loop, rec = fun st => { state := st, pending := none, fn, tmps := a.tmps, params := #[p], assign, body, defers := w.heap.size } := ⟨_, rfl⟩
 obtain ⟨W1, hW1⟩ : ∃ W1, (w.alloc (.deferred (some []))).alloc (.loop (rec .ready)) = W1 := ⟨_, rfl⟩
 have hL1 : W1.heap[w.heap.size + 1]? = some (.loop (rec .ready)) := by
  rw [← hW1]; have := World.alloc_heap_new (w.alloc (.deferred (some []))) (.loop (rec .ready)); rwa [World.size_alloc] at this
 have hK1 : W1.heap[w.heap.size]? = some (.deferred (some [])) := by
  rw [← hW1]; exact (Below.heap_alloc _ _ _ (by simp)).trans (World.alloc_heap_new w _)
 have hb1 : Below w.heap.size w W1 := by rw [← hW1]; exact ((Below.refl _ w).alloc (Nat.le_refl _) _).alloc (by simp) _
 have hs1 : W1.heap.size = w.heap.size + 2 := by rw [← hW1]; simp
 refine ⟨w.heap.size + 1, [{ target := .collected w.heap.size, args := #[] }], W1, { target := .fn (.func gf) lb, args := #[.func (.yield (w.heap.size + 1)) #[] #[]] }, W1, gf,
  #[.func (.yield (w.heap.size + 1)) #[] #[]] ++ lb, W1, ?_, ?_, ?_, ?_, (fun h => by cases h), ?_⟩
 ·rw [← hW1, hrec]; exact run_enterLoop_outer _ _ _ _ _
 ·simp only [resolve, hg]; simp [go_sem]
 ·intro f' _; trivial
 ·simp [invoke, go_sem, eg]
 ·refine callsIn_n ((hseq (w.heap.size + 1) (fun Z k W => I Z k W ∧ (∀ z ∈ Z, W1.heap.size ≤ z) ∧ W.heap[w.heap.size + 1]? = some (.loop (rec .ready)) ∧ W.heap[w.heap.size]? = some (.deferred (some []))) W1 hb1 (by omega) (by omega) ?_ ?_ ?_).mono ?_)
  ·rintro Z k A B ⟨hi, hz, hl, hk⟩ hm
   have l1 := (Array.getElem?_eq_some_iff.1 hl).1
   refine ⟨hI _ _ _ _ hi (hm.low (by omega)), hz, (hm.block _ l1 (fun h => by have := hz _ h; omega) (Or.inl (by omega))).trans hl, (hm.block _ (by omega) (fun h => by have := hz _ h; omega) (Or.inl (by omega))).trans hk⟩
  ·rintro Z k x W hkN ⟨hi, hz, hl, hk⟩ hgd
   have hlt : w.heap.size + 1 < W.heap.size := (Array.getElem?_eq_some_iff.1 hl).1
   have hy := run_yield (P := P) (args := #[enc x]) hl (by rw [hrec]; rfl)
   rw [hrec] at hy
   refine ⟨fn, _, assign, body, hy, roundIn_n (roundIn_of_wpIn (n := 0) hfn ?_)⟩
   have hzip : ((#[p] : Array Tmp).zip #[enc x]).foldl (fun t q => t.setIfInBounds q.1 q.2) a.tmps = a.tmps.setIfInBounds p (enc x) := by first | rfl | simp
   show assign.wpIn (Fence.wide.inRound _) 0 P _ ({ tmps := ((#[p] : Array Tmp).zip #[enc x]).foldl (fun t q => t.setIfInBounds q.1 q.2) a.tmps, defers := [] } : Act) W
   rw [hzip]
   refine wpIn_mono (hround (w.heap.size + 1) Z k x W (by omega) (by omega) hi hgd hkN) ?_
   rintro e a1 Wa hp
   cases e with
   | normal =>
    obtain ⟨hc1, hp⟩ := hp
    have e1 : Wa.heap[w.heap.size + 1]? = some (.loop (rec .ready)) := (hc1.block _ hlt (fun h => by have := hXw _ h; omega)).trans hl
    have k1 : Wa.heap[w.heap.size]? = some (.deferred (some [])) := (hc1.block _ (by omega) (fun h => by have := hXw _ h; omega)).trans hk
    have hla := (Array.getElem?_eq_some_iff.1 e1).1
    have hsz : (Wa.putObj (w.heap.size + 1) (.loop { rec .ready with state := .busy })).heap.size = Wa.heap.size := by simp [World.putObj]
    have e2 : (Wa.putObj (w.heap.size + 1) (.loop { rec .ready with state := .busy })).heap[w.heap.size + 1]? = some (.loop { rec .ready with state := .busy }) := World.putObj_heap_same hla
    have k2 : (Wa.putObj (w.heap.size + 1) (.loop { rec .ready with state := .busy })).heap[w.heap.size]? = some (.deferred (some [])) := (World.putObj_heap_other (by omega)).trans k1
    refine ⟨_, run_beginRound e1 (by rw [hrec]), wpIn_mono (hp _ (Mv.putObj (by omega) e1 rfl)) ?_⟩
    rintro e a3 W3 ⟨rfl, hi3, hc3⟩
    have e3 : W3.heap[w.heap.size + 1]? = some (.loop { rec .ready with state := .busy }) := (hc3.block _ (by rw [hsz]; exact hla) (fun h => by have := hXw _ h; omega)).trans e2
    have k3 : W3.heap[w.heap.size]? = some (.deferred (some [])) := (hc3.block _ (by rw [hsz]; omega) (fun h => by have := hXw _ h; omega)).trans k2
    have hend := run_endRound (P := P) none e3
    rw [hrec] at hend e3
    have e4 : (W3.putObj (w.heap.size + 1) (.loop (rec .ready))).heap[w.heap.size + 1]? = some (.loop (rec .ready)) := World.putObj_heap_same (Array.getElem?_eq_some_iff.1 e3).1
    refine ⟨_, _, hend, rfl, ⟨?_, hz, ?_, ?_⟩, ?_⟩
    ·exact hI _ _ _ _ hi3 (Mv.putObj (by omega) e3 rfl)
    ·rw [hrec] at e4; rw [hrec]; exact e4
    ·exact (World.putObj_heap_other (by omega)).trans k3
    ·refine (hc1.mono (fun x hx => List.mem_cons_of_mem _ hx)).trans (((Chg.putObj e1).mono (fun x hx => by simp at hx; simp [hx])).trans ((hc3.mono (fun x hx => List.mem_cons_of_mem _ hx)).trans ((Chg.putObj e3).mono (fun x hx => by simp at hx; simp [hx]))))
   | exit id => exact hp.elim
   | goto t => exact hp.elim
   | ret => exact hp.elim
   | panic chain => exact hp.elim
   | outgrown => exact hp.elim
  ·intro Z hl hz
   exact ⟨hI _ _ _ _ (h0 Z hl (fun z h => by have := hz z h; omega)) (Mv.of_chg (Chg.of_below _ hb1)), hz, hL1, hK1⟩
  ·rintro e W2 ⟨⟨v, rfl⟩, Z, hi, hz, hl, hk⟩
   refine ⟨none, _, by have := run_endLoop (P := P) hl (by rw [hrec]; simp); rw [hrec] at this; exact this, hdone _ Z _ (Nat.le_refl _) (hI _ _ _ _ hi (Mv.putObj (by omega) hl rfl)) ((World.putObj_heap_other (by omega)).trans hk)⟩
end Go.Proofs.YthggkidiidnaoaaGreatDoor
end
section
namespace Go.Proofs.YthggkidiidnaoaaGreatDoor
set_option linter.unusedVariables false
set_option linter.unusedSimpArgs false
set_option autoImplicit false
open Go.RowKit
def Wide (F : Fence) : Prop := F = Fence.wide ∨ ∃ l, F = Fence.wide.inRound l
theorem Wide.fn {F : Fence} (h : Wide F) (f : FuncId) : F.fn f := by rcases h with rfl | ⟨l, rfl⟩ <;> trivial
theorem Wide.depth {F : Fence} (h : Wide F) : F.depth = none := by rcases h with rfl | ⟨l, rfl⟩ <;> rfl
theorem Wide.calls {F : Fence} (h : Wide F) {n : Nat} {P : Program} {f : FuncId} {args : Array Value} {w : World} {R : Ending → World → Prop} (k : Calls P f args w R) : CallsIn F n P f args w R := by
 rcases h with rfl | ⟨l, rfl⟩
 ·exact callsIn_wide.2 k
 ·exact CallsIn.inRound l (callsIn_wide.2 k)
theorem Wide.rows {F : Fence} (h : Wide F) {n : Nat} {P : Program} {row : String} {args : Array Value} {w : World} {R : Value → World → Prop} (k : Rows P row args w R) : _root_.Go.RowsIn F n P row args w R := by
 have key : _root_.Go.RowsIn Fence.wide n P row args w R := fun c cs _ => by
  obtain ⟨v, w', r, s⟩ := k c cs
  exact ⟨v, w', r, stepsIn_wide.2 s⟩
 rcases h with rfl | ⟨l, rfl⟩
 ·exact key
 ·exact key
theorem Wide.round {F : Fence} (h : Wide F) {n m : Nat} {P : Program} {l : Nat} {f : FuncId} {tmps : Array Value} {assign body : Code} {w : World} {R : Ending → World → Prop} (k : RoundIn Fence.wide n P l f tmps assign body w R) : RoundIn F m P l f tmps assign body w R := by
 have key : RoundIn Fence.wide m P l f tmps assign body w R := roundIn_n k
 rcases h with rfl | ⟨l, rfl⟩
 ·exact key
 ·exact key
theorem Wide.sem {F : Fence} (h : Wide F) (ρ : Operand → Value) (o : Oper) (hd : ∀ c, o.op ≠ .defer c) : Oper.semAt F.round ρ o = execOp ρ o := Oper.semAt_eq _ ρ o hd
def noDefer (os : List Oper) : Bool := os.all fun o => match o.op with | .defer _ => false | _ => true
theorem noDefer_cons {o : Oper} {os : List Oper} (h : noDefer (o :: os) = true) : (∀ c, o.op ≠ .defer c) ∧ noDefer os = true := by
 simp only [noDefer, List.all_cons, Bool.and_eq_true] at h
 refine ⟨fun c hc => ?_, h.2⟩
 rw [hc] at h
 exact absurd h.1 (by simp)
theorem listIn_of {F : Fence} (hF : Wide F) {n : Nat} {P : Program} {ops : Array Oper} {Q : Exit → Act → World → Prop} (hQ : ¬ LetsOut Q) : ∀ (rest : List Oper) (a : Act) (w : World), noDefer rest = true → wpList P ops Q rest a w → wpListIn F n P ops Q rest a w := by
 intro rest
 induction rest with
 | nil => intro a w _ h; exact h
 | cons o rest ih =>
  intro a w hd h
  obtain ⟨hd1, hd2⟩ := noDefer_cons hd
  unfold wpList at h
  unfold wpListIn
  split
  ·rename_i hw
   rw [if_pos hw] at h
   rcases h with h | h
   ·refine ⟨fun f _ => hF.fn f, ?_⟩
    rw [hF.sem _ _ hd1]
    unfold Oper.wp at h
    revert h
    generalize (execOp a.eval o).run P w = r
    intro h
    cases r with
    | ok x w' =>
     cases x <;> simp only [Oper.upon, Oper.uponIn] at h ⊢ <;>
      first
       | exact h.elim
       | exact ih _ _ hd2 h
       | exact ⟨fun e => (by rw [hF.depth] at e; cases e), hF.calls (h.mono fun e w'' he => by cases e <;> first | exact ih _ _ hd2 he | exact he)⟩
       | exact ⟨fun e => (by rw [hF.depth] at e; cases e), hF.rows (h.mono fun _ _ he => ih _ _ hd2 he)⟩
    | halt x w' => cases x <;> simp only [Oper.upon, Oper.uponIn] at h ⊢ <;> first | exact h.elim | exact h
   ·exact absurd h.2 hQ
  ·rename_i hw
   rw [if_neg hw] at h
   exact ⟨fun f _ => hF.fn f, ih _ _ hd2 h⟩
abbrev CI (F : Fence) (P : Program) (e0 : Cfg) (U : Snaps) (l : Slots) (L : Boxes) (c : Code) (Q : Exit → Act → World → Prop) : Prop := AQ e0 U l L (Code.wpIn F 0 P c Q)
section
variable {F : Fence} {P : Program} {e0 : Cfg} {U : Snaps} {l : Slots} {L : Boxes} {ops : Array Oper} {Q : Exit → Act → World → Prop} {rest : List Oper} {d : Nat} {v : Value}
variable {ty : TypeId} {pos : String} {af : Array Edge} {g : Option (Nat × Bool)} {dd : Option Nat} {o : Oper}
theorem ci_seq {x y : Code} (k : CI F P e0 U l L x (Exit.then (y.wpIn F 0 P Q) Q)) : CI F P e0 U l L (.seq x y) Q := fun a w hf hs => wpIn_seq (k a w hf hs)
theorem ci_skip (k : AQ e0 U l L (Q .normal)) : CI F P e0 U l L .skip Q := fun a w hf hs => wpIn_skip (k a w hf hs)
theorem ci_block {id : Nat} {c : Code} (k : CI F P e0 U l L c (Exit.inBlock id Q)) : CI F P e0 U l L (.block id c) Q := fun a w hf hs => wpIn_block (k a w hf hs)
theorem ci_condT {c : Operand} {x y : Code} (hc : E l c = some (.bool true)) (k : CI F P e0 U l L x Q) : CI F P e0 U l L (.cond c x y) Q := fun a w hf hs => wpIn_cond_true (hf.ev hc) (k a w hf hs)
theorem ci_condF {c : Operand} {x y : Code} (hc : E l c = some (.bool false)) (k : CI F P e0 U l L y Q) : CI F P e0 U l L (.cond c x y) Q := fun a w hf hs => wpIn_cond_false (hf.ev hc) (k a w hf hs)
theorem ci_region {id : Nat} {os : List Oper} (hF : Wide F) (hQ : ¬ LetsOut Q) (hd : noDefer os = true) (k : AL P os.toArray Q e0 U l L os) : CI F P e0 U l L (.region id os.toArray false) Q := fun a w hf hs => wpIn_region_lit (listIn_of hF hQ os a w hd (k a w hf hs))
end
theorem Sta.cellL {E : Cfg} {U : Snaps} {L : Boxes} {w : World} (h : Sta E U L w) {b k : Nat} (hb : b < E.w.heap.size) (hn : b ∉ E.lent) : w.cell? ⟨b, k, none⟩ = E.w.cell? ⟨b, k, none⟩ := World.cell?_of_block (w := E.w) (w' := w) (a := ⟨b, k, none⟩) (h.chg.block b hb hn)
theorem Fr.rebase {n : Nat} {D : List Deferred} {w0 w1 : World} {bs bs' : List Nat} {l : Slots} {a : Act} (h : Fr ⟨n, D, w0, bs⟩ l a) : Fr ⟨n, D, w1, bs'⟩ l a := ⟨h.size, h.defers, h.slot⟩
theorem Fr.marked {n : Nat} {w0 : World} {bs : List Nat} {l : Slots} {a : Act} (h : Fr ⟨n, [], w0, bs⟩ l a) (x : Deferred) : Fr ⟨n, [x], w0, bs⟩ l { a with defers := x :: a.defers } := ⟨h.size, by rw [h.defers], h.slot⟩
theorem ci_go {F : Fence} {P : Program} {e0 : Cfg} {U : Snaps} {l : Slots} {L : Boxes} {c : Code} {Q : Exit → Act → World → Prop} {a : Act} {w : World} (hf : Fr e0 l a) (hs : Sta e0 U L w) (k : CI F P e0 U l L c Q) : c.wpIn F 0 P Q a w := k a w hf hs
def postM (P : Program) (fn : Func) (R : Ending → World → Prop) : Exit → Act → World → Prop
 | .normal, a, w | .ret, a, w => LeavesInM Fence.wide 0 P fn a.tmps R a.defers .returning w
 | _, _, _ => False
theorem postM.up {P : Program} {fn : Func} {R : Ending → World → Prop} : ∀ e a w, postM P fn R e a w → bodyPostM Fence.wide 0 P fn R e a w
 | .normal, _, _, h => h
 | .ret, _, _, h => h
 | .exit _, _, _, h => h.elim
 | .goto _, _, _, h => h.elim
 | .panic _, _, _, h => h.elim
 | .outgrown, _, _, h => h.elim
theorem calls_axM {P : Program} {f : FuncId} {fn : Func} {c : Code} {vs : List Value} {w : World} {R : Ending → World → Prop} (hf : P.funcs[f]? = some fn) (hb : fn.body = some c) (hn : Nat.ble vs.length fn.ntmps = true)
  (k : AC P ⟨fn.ntmps, [], w, []⟩ [] (num 0 vs) [] c (postM P fn R)) : Calls P f vs.toArray w R :=
 callsIn_wide.1 (callsIn_of_wp_marks (n := 0) hf hb trivial (Go.wpIn_mono (wpIn_wide.2 (k _ w (Fr.start fn.ntmps w [] vs hn) (Sta.start _ _ w))) postM.up) rfl)
end Go.Proofs.YthggkidiidnaoaaGreatDoor
end
section
namespace Go.Proofs.YthggkidiidnaoaaGreatDoor
set_option linter.unusedVariables false
set_option linter.unusedSimpArgs false
set_option autoImplicit false
open Go.RowKit
end Go.Proofs.YthggkidiidnaoaaGreatDoor
end
section
namespace Go.Proofs.YthggkidiidnaoaaGreatDoor
set_option linter.unusedVariables false
set_option linter.unusedSimpArgs false
set_option autoImplicit false
open Go.RowKit
abbrev Cfg.withD (E : Cfg) (D : List Deferred) : Cfg := ⟨E.n, D, E.w, E.lent⟩
theorem Sta.withD {E : Cfg} {U : Snaps} {L : Boxes} {w : World} (h : Sta E U L w) (D : List Deferred) : Sta (E.withD D) U L w := ⟨h.chg, h.box, h.apart, h.snap⟩
theorem ci_round {e0 e1 : Cfg} {U : Snaps} {l : Slots} {L : Boxes} {β : Type} {Fc : β → Prop} {D : β → List Deferred} {S : β → Slots} {V : β → Snaps} {M : β → Boxes} {μ : β → Nat} {x : β} (y : β) (hE : e1 = e0.withD (D y)) (hm : μ y < μ x) (hF : Fc y) (hl : AllLook l (S y)) (hL : ∀ w, Sta e1 U L w → Sta e1 (V y) (M y) w) :
  AQ e1 U l L (fun a w => ∃ y, μ y < μ x ∧ Fc y ∧ Fr (e0.withD (D y)) (S y) a ∧ Sta (e0.withD (D y)) (V y) (M y) w) := by
 subst hE
 exact fun a w hf hs => ⟨y, hm, hF, hf.sub hl.sub, hL w hs⟩
theorem ci_cond {F : Fence} {P : Program} {Q : Exit → Act → World → Prop} {e0 : Cfg} {U : Snaps} {l : Slots} {L : Boxes} {c : Operand} {x y : Code} {b : Bool} (hc : E l c = some (.bool b)) (kt : b = true → CI F P e0 U l L x Q) (kf : b = false → CI F P e0 U l L y Q) : CI F P e0 U l L (.cond c x y) Q := by
 cases b
 ·exact ci_condF hc (kf rfl)
 ·exact ci_condT hc (kt rfl)
abbrev markD (D : Nat) : Deferred := { target := .collected D, args := #[] }
inductive Marks (w : World) : Nat → List Nat → Prop
 | nil {m : Nat} : Marks w m []
 | cons {m D : Nat} {Ds : List Nat} (hD : w.heap[D]? = some (.deferred (some []))) (hm : D < m) (h : Marks w D Ds) : Marks w m (D :: Ds)
theorem Marks.mono {w : World} {m m' : Nat} {Ds : List Nat} (h : Marks w m Ds) (hm : m ≤ m') : Marks w m' Ds := by
 cases h with
 | nil => exact .nil
 | cons hD h1 h2 => exact .cons hD (by omega) h2
theorem Marks.keep {w w' : World} {m : Nat} {Ds : List Nat} (h : Marks w m Ds) (hk : ∀ D, D < m → w.heap[D]? = some (.deferred (some [])) → w'.heap[D]? = w.heap[D]?) : Marks w' m Ds := by
 induction h with
 | nil => exact .nil
 | cons hD h1 h2 ih => exact .cons ((hk _ h1 hD).trans hD) h1 (ih fun D hd => hk D (by omega))
theorem Marks.lt {w : World} {m : Nat} {Ds : List Nat} (h : Marks w m Ds) : ∀ D ∈ Ds, D < m := by
 induction h with
 | nil => intro D hD; cases hD
 | cons hD h1 h2 ih =>
  intro d hd
  rcases List.mem_cons.1 hd with rfl | hd
  ·exact h1
  ·exact Nat.lt_trans (ih d hd) h1
theorem leaves_marks {P : Program} {fn : Func} {R : Ending → World → Prop} {tmps : Array Value} {v : Value} {lo : Nat} : ∀ (Ds : List Nat) (m : Nat) (w : World), Marks w m Ds → (∀ D ∈ Ds, lo ≤ D) → (∀ w', Mv lo [] w w' → Chg Ds w w' → (results fn tmps).run P w' = .ok v w') → (∀ w', Mv lo [] w w' → Chg Ds w w' → R (.returned v) w') →
  LeavesInM Fence.wide 0 P fn tmps R (Ds.map markD) .returning w
 | [], m, w, _, _, hr, hR => ⟨v, hr _ (Mv.of_chg (Chg.refl _ _)) (Chg.refl _ _), hR _ (Mv.of_chg (Chg.refl _ _)) (Chg.refl _ _)⟩
 | D :: Ds, m, w, hM, hlo, hr, hR => by
  cases hM with
  | cons hD h1 h2 =>
   refine ⟨by simp, .inl ⟨_, _, rfl, run_takeDeferred hD, ?_⟩⟩
   have c1 : Chg [D] w (w.putObj D (.deferred none)) := Chg.putObj hD
   have m1 : Mv lo [] w (w.putObj D (.deferred none)) := Mv.putObj (hlo D (by simp)) hD rfl
   refine leaves_marks Ds D _ (h2.keep fun d hd _ => c1.block d (Nat.lt_trans hd (Array.getElem?_eq_some_iff.1 hD).1) (by simp; omega)) (fun d hd => hlo d (by simp [hd])) (fun w' m2 c2 => hr w' (m1.trans m2) ((c1.mono (by simp)).trans (c2.mono (by simp +contextual)))) (fun w' m2 c2 => ?_)
   exact hR w' (m1.trans m2) ((c1.mono (by simp)).trans (c2.mono (by simp +contextual)))
theorem Sta.mv {E : Cfg} {U : Snaps} {L : Boxes} {w w' : World} {n0 : Nat} {Z : List Nat} (h : Sta E U L w) (hm : Mv n0 Z w w') (hn : E.w.heap.size ≤ n0) (hU : ∀ lo u, (lo, u) ∈ U → u.heap.size ≤ n0) (hZ : ∀ z ∈ Z, n0 ≤ z) (hc : ∀ (i b : Nat) (c : Cont), L[i]? = some (b, c) → b ∉ Z ∧ (b < n0 ∨ ∃ o : Obj, w.heap[b]? = some o ∧ o.isCells = true)) : Sta E U L w' := by
 have low : ∀ k, k < n0 → k < w.heap.size → w'.heap[k]? = w.heap[k]? := fun k hk hw => hm.block k hw (fun hz => by have := hZ k hz; omega) (Or.inl hk)
 have hs := h.chg.size
 refine ⟨⟨hm.os.trans h.chg.os, hm.tape.trans h.chg.tape, hm.output.trans h.chg.output, Nat.le_trans h.chg.size hm.size, fun k hk hl => (low k (by omega) (by omega)).trans (h.chg.block k hk hl)⟩, fun i b c hi => ?_, h.apart, fun lo u hu => ?_⟩
 ·obtain ⟨h1, h2⟩ := h.box i b c hi
  obtain ⟨g1, g2⟩ := hc i b c hi
  exact ⟨h1, h2.same (hm.block b h2.lt g1 g2) hm.size⟩
 ·obtain ⟨s0, s1, s2, s3, s4, s5⟩ := h.snap lo u hu
  have := hU lo u hu
  exact ⟨s0, s1, Nat.le_trans s2 hm.size, fun k h1 h2 => (low k (by omega) (by omega)).trans (s3 k h1 h2), s4, s5⟩
theorem Sta.snapNow {E : Cfg} {U : Snaps} {L : Boxes} {w : World} (h : Sta E U L w) (lo : Nat) (h1 : E.w.heap.size ≤ lo) (h2 : lo ≤ w.heap.size) (h3 : ∀ (i b : Nat) (c : Cont), L[i]? = some (b, c) → b < lo) : Sta E ((lo, w) :: U) L w := by
 refine ⟨h.chg, h.box, h.apart, fun lo' u hu => ?_⟩
 cases hu with
 | head => exact ⟨h1, h2, Nat.le_refl _, fun k _ _ => rfl, h.chg.block, fun i b c hi => Or.inl (h3 i b c hi)⟩
 | tail _ hu => exact h.snap lo' u hu
theorem set_box {L : Boxes} {i j b b' : Nat} {c0 c c' : Cont} (hi : L[i]? = some (b, c0)) (h : (L.set i (b, c))[j]? = some (b', c')) : ∃ c2, L[j]? = some (b', c2) := by
 by_cases e : i = j
 ·subst e
  rw [List.getElem?_set_self (List.getElem?_eq_some_iff.1 hi).1] at h
  cases h; exact ⟨_, hi⟩
 ·rw [List.getElem?_set_ne e] at h; exact ⟨_, h⟩
theorem ac_range1 {P : Program} {e0 : Cfg} {U : Snaps} {l : Slots} {L : Boxes} {Q : Exit → Act → World → Prop} {α : Type} {g : Operand} {p : Tmp} {assign body : Code} {gf : Nat} {lb : Array Value} {enc : α → Value} {Gd : Nat → α → Prop} {N b : Nat} (i : Nat) (cont : Nat → Cont) (S : Nat → α → Slots) (Lk : Nat → Boxes)
  (hg : E l g = some (.func (.func gf) #[] lb)) (eg : ∀ args w, (callFunc gf args).run P w = .ok (.enter gf args) w) (hp : Nat.blt p e0.n = true) (hi : L[i]? = some (b, cont 0)) (hL : ∀ k, Lk k = L.set i (b, cont k))
  (hseq : ∀ v, Sta e0 U L v → IterAll P gf lb enc (fun _ k x _ => Gd k x) [b] 0 N v)
  (hassign : ∀ k x lf W (Q' : Exit → Act → World → Prop), k < N → Gd k x → ¬ LetsOut Q' → AQ ⟨e0.n, [], W, []⟩ [] (S k x) [] (Q' .normal) → CI (Fence.wide.inRound lf) P ⟨e0.n, [], W, []⟩ [] ((p, enc x) :: l) [] assign Q')
  (hbody : ∀ k x lf W (Q' : Exit → Act → World → Prop), k < N → Gd k x → ¬ LetsOut Q' → Sta e0 U (Lk k) W → AQ ⟨e0.n, [], W, [b]⟩ [] [] [(b, cont (k + 1))] (Q' .normal) → CI (Fence.wide.inRound lf) P ⟨e0.n, [], W, [b]⟩ [] (S k x) [(b, cont k)] body Q')
  (hend : ∀ lo D u, e0.w.heap.size ≤ lo → lo ≤ D → D < u.heap.size → u.heap[D]? = some (.deferred (some [])) → AQ (e0.withD (markD D :: e0.D)) ((lo, u) :: U) l (Lk N) (Q .normal)) :
  AC P e0 U l L (.rangeFunc g #[p] assign body) Q := by
 intro a v hf hs
 refine (wpIn_wide (n := 0)).1 ?_
 have hv := hs.chg.size
 have hbv : b < v.heap.size := (hs.box i b _ hi).2.lt
 have hU : ∀ lo u, (lo, u) ∈ U → u.heap.size ≤ v.heap.size := fun lo u hu => (hs.snap lo u hu).2.2.1
 have hlow : ∀ k (j b' : Nat) (c : Cont), (Lk k)[j]? = some (b', c) → b' < v.heap.size := fun k j b' c h => by
  rw [hL k] at h
  obtain ⟨c2, h2⟩ := set_box hi h
  exact (hs.box j b' c2 h2).2.lt
 have hself : ∀ k, (Lk k)[i]? = some (b, cont k) := fun k => by rw [hL k]; exact List.getElem?_set_self (List.getElem?_eq_some_iff.1 hi).1
 have hmv : ∀ k W1 W2, Sta e0 U (Lk k) W1 → Mv v.heap.size [] W1 W2 → Sta e0 U (Lk k) W2 := fun k W1 W2 h hm => h.mv hm hv hU (fun z hz => by cases hz) (fun j b' c hj => ⟨by simp, Or.inl (hlow k j b' c hj)⟩)
 refine wpIn_range_all (X := [b]) (zl := 0) (N := N) (Good := fun _ k x _ => Gd k x) (enc := enc) (hf.ev hg) eg (hseq v hs) (fun Z k W => Z = [] ∧ v.heap.size ≤ W.heap.size ∧ Sta e0 U (Lk k) W) ?_ ?_ ?_ ?_ ?_
 ·rintro Z k W1 W2 ⟨rfl, h1, h2⟩ hm
  exact ⟨rfl, Nat.le_trans h1 hm.size, hmv k _ _ h2 hm⟩
 ·intro Z hZ _
  refine ⟨List.length_eq_zero_iff.1 hZ, Nat.le_refl _, ?_⟩
  have e : Lk 0 = L := by
   rw [hL 0]
   exact List.ext_getElem? fun j => by
    by_cases e : i = j
    ·subst e; rw [List.getElem?_set_self (List.getElem?_eq_some_iff.1 hi).1, hi]
    ·rw [List.getElem?_set_ne e]
  rw [e]; exact hs
 ·rintro lf Z k x W hl sW ⟨rfl, h1, hS⟩ hgd hk
  have hfp : Fr ⟨e0.n, [], W, []⟩ ((p, enc x) :: l) { tmps := a.tmps.setIfInBounds p (enc x), defers := [] } := by
   have := hf.put hp (enc x)
   exact ⟨this.size, rfl, this.slot⟩
  refine ci_go hfp (Sta.start _ _ _) (hassign k x lf W _ hk hgd (by rintro ⟨_, _, h⟩; exact h) ?_)
  intro a1 W1 hf1 hs1
  refine ⟨Chg.of_below _ hs1.below, fun W2 hm2 => ?_⟩
  have hS2 := hmv k _ _ hS ((Mv.of_chg (Chg.of_below _ hs1.below)).trans hm2)
  refine ci_go (hf1.rebase (w1 := W2) (bs' := [b])) (Sta.lend _ _ _ b _ (hS2.box i b _ (hself k)).2) (hbody k x lf W2 _ hk hgd ?_ hS2 ?_)
  ·rintro ⟨_, _, h, -⟩; cases h
  ·intro a3 W3 hf3 hs3
   have hc := hS2.change (hself k) hs3.chg (hs3.box 0 b _ rfl).2
   rw [hL k, List.set_set, ← hL (k + 1)] at hc
   have s1 := hm2.size
   have s2 := hs1.chg.size
   have s3 := hs3.chg.size
   simp only at s2 s3
   exact ⟨rfl, ⟨rfl, by omega, hc⟩, hs3.chg⟩
 ·intro x hx
  rw [List.mem_singleton.1 hx]; exact hbv
 ·rintro D Z Wd hD ⟨-, h1, hS⟩ hDd
  exact hend v.heap.size D Wd hv hD (Array.getElem?_eq_some_iff.1 hDd).1 hDd _ _ ⟨hf.size, by rw [hf.defers], hf.slot⟩ ((hS.snapNow _ hv h1 (hlow N)).withD _)
theorem below_mark {D : Nat} {w w9 w8 : World} (h : Below w.heap.size w w9) (hc : Chg [D] w9 w8) (hD : w.heap.size ≤ D) : Below w.heap.size w w8 :=
 ⟨hc.os.trans h.os, hc.tape.trans h.tape, hc.output.trans h.output, Nat.le_trans h.size hc.size, fun k hk => (hc.block k (Nat.lt_of_lt_of_le hk h.size) (fun e => by have := List.mem_singleton.1 e; omega)).trans (h.block k hk)⟩
end Go.Proofs.YthggkidiidnaoaaGreatDoor
end
section
namespace Go.Proofs
open Go.Shelf
def Tryz.lays189_ren : Go.Shelf.Ren := ⟨fun | 189 => 50 | 125 => 90 | 257 => 89 | 128 => 137 | 129 => 138 | 294 => 128 | 295 => 129 | 296 => 130 | 297 => 131 | 298 => 132 | 299 => 133 | 216 => 134 | 300 => 135 | 301 => 136 | 328 => 158 | 329 => 159 | 330 => 160 | 331 => 161 | 332 => 162 | 215 => 163 | 343 => 172 | n => n, fun | 28 => 30 | 3 => 3 | 46 => 145 | 0 => 0 | 51 => 58 | 53 => 196 | 4 => 4 | 183 => 190 | 182 => 189 | 131 => 155 | 5 => 5 | 9 => 9 | 218 => 210 | 222 => 214 | 228 => 223 | 229 => 141 | n => n, fun | n => n⟩
theorem Tryz.lays189 : Go.Proofs.Lays.n189 Tryz.prog Tryz.lays189_ren := {
 mixed := by kernel_rfl
 f125 := Tryz.func90.trans (congrArg some (by kernel_rfl))
 f128 := Tryz.func137.trans (congrArg some (by kernel_rfl))
 f129 := Tryz.func138.trans (congrArg some (by kernel_rfl))
 f189 := Tryz.func50.trans (congrArg some (by kernel_rfl))
 f215 := Tryz.func163.trans (congrArg some (by kernel_rfl))
 f216 := Tryz.func134.trans (congrArg some (by kernel_rfl))
 f257 := Tryz.func89.trans (congrArg some (by kernel_rfl))
 f294 := Tryz.func128.trans (congrArg some (by kernel_rfl))
 f295 := Tryz.func129.trans (congrArg some (by kernel_rfl))
 f296 := Tryz.func130.trans (congrArg some (by kernel_rfl))
 f297 := Tryz.func131.trans (congrArg some (by kernel_rfl))
 f298 := Tryz.func132.trans (congrArg some (by kernel_rfl))
 f299 := Tryz.func133.trans (congrArg some (by kernel_rfl))
 f300 := Tryz.func135.trans (congrArg some (by kernel_rfl))
 f301 := Tryz.func136.trans (congrArg some (by kernel_rfl))
 f328 := Tryz.func158.trans (congrArg some (by kernel_rfl))
 f329 := Tryz.func159.trans (congrArg some (by kernel_rfl))
 f330 := Tryz.func160.trans (congrArg some (by kernel_rfl))
 f331 := Tryz.func161.trans (congrArg some (by kernel_rfl))
 f332 := Tryz.func162.trans (congrArg some (by kernel_rfl))
 f343 := Tryz.func172.trans (congrArg some (by kernel_rfl))
 t0 := Tryz.underlying0
 a0 := Tryz.isAgg0
 z0 := Tryz.sizeOf0
 v0 := Tryz.zeroValue0
 t3 := Tryz.underlying3
 a3 := Tryz.isAgg3
 z3 := Tryz.sizeOf3
 v3 := Tryz.zeroValue3
 t4 := Tryz.underlying4
 a4 := Tryz.isAgg4
 z4 := Tryz.sizeOf4
 v4 := Tryz.zeroValue4
 t5 := Tryz.underlying5
 a5 := Tryz.isAgg5
 z5 := Tryz.sizeOf5
 v5 := Tryz.zeroValue5
 t9 := Tryz.underlying9
 a9 := Tryz.isAgg9
 z9 := Tryz.sizeOf9
 v9 := Tryz.zeroValue9
 t28 := Tryz.underlying30
 a28 := Tryz.isAgg30
 z28 := Tryz.sizeOf30
 v28 := Tryz.zeroValue30
 t46 := Tryz.underlying145
 a46 := Tryz.isAgg145
 z46 := Tryz.sizeOf145
 v46 := Tryz.zeroValue145
 t51 := Tryz.underlying58
 a51 := Tryz.isAgg58
 z51 := Tryz.sizeOf58
 v51 := Tryz.zeroValue58
 t53 := Tryz.underlying196
 a53 := Tryz.isAgg196
 z53 := Tryz.sizeOf196
 v53 := Tryz.zeroValue196
 t131 := Tryz.underlying155
 a131 := Tryz.isAgg155
 z131 := Tryz.sizeOf155
 v131 := Tryz.zeroValue155
 t182 := Tryz.underlying189
 a182 := Tryz.isAgg189
 z182 := Tryz.sizeOf189
 v182 := Tryz.zeroValue189
 t183 := Tryz.underlying190
 a183 := Tryz.isAgg190
 z183 := Tryz.sizeOf190
 v183 := Tryz.zeroValue190
 t218 := Tryz.underlying210
 a218 := Tryz.isAgg210
 z218 := Tryz.sizeOf210
 v218 := Tryz.zeroValue210
 t222 := Tryz.underlying214
 a222 := Tryz.isAgg214
 z222 := Tryz.sizeOf214
 v222 := Tryz.zeroValue214
 t228 := Tryz.underlying223
 a228 := Tryz.isAgg223
 z228 := Tryz.sizeOf223
 v228 := Tryz.zeroValue223
 t229 := Tryz.underlying141
 a229 := Tryz.isAgg141
 z229 := Tryz.sizeOf141
 v229 := Tryz.zeroValue141 }
def Tryz.laysNm215_ren : Go.Shelf.Ren := ⟨fun | 15 => 147 | n => n, fun | 22 => 30 | 3 => 3 | 4 => 4 | n => n, fun | n => n⟩
theorem Tryz.laysNm215 : Go.Proofs.Lays2.n15 Tryz.prog Tryz.laysNm215_ren := {
 mixed := by kernel_rfl
 f15 := Tryz.func147.trans (congrArg some (by kernel_rfl))
 t3 := Tryz.underlying3
 a3 := Tryz.isAgg3
 z3 := Tryz.sizeOf3
 v3 := Tryz.zeroValue3
 t4 := Tryz.underlying4
 a4 := Tryz.isAgg4
 z4 := Tryz.sizeOf4
 v4 := Tryz.zeroValue4
 t22 := Tryz.underlying30
 a22 := Tryz.isAgg30
 z22 := Tryz.sizeOf30
 v22 := Tryz.zeroValue30
 i3 := by kernel_rfl }
open Go.Sort Go.RowKit in
theorem Tryz.slices_Sort_int (blk off cap : Nat) (zs : List Int) (w : World) (hH : Holds (Value.int .i64) w blk off zs.toArray) (hblk : blk < w.heap.size) (hsz : zs.length < 4611686018427387904) :
  Calls Tryz.prog 50 #[.slice (some ⟨blk, off, none⟩) zs.length cap] w fun e w' =>
   e = .returned (.tuple #[]) ∧ ∃ n os, w' = grow (putRow (Value.int .i64) (Sort.ahead w n) blk off (zs.mergeSort fun x y => decide (x ≤ y)).toArray) os := Any.slices_Sort_int Tryz.lays189 blk off cap zs w hH hblk hsz
open Go.RowKit Go.Lib in
theorem Tryz.slices_Clone_int (b off n c : Nat) (zs : List Int) (w : World) (hz : n ≤ zs.length) (hbig : n * 8 ≤ 140737488355328) (hc : ∀ j, j < zs.length → w.cell? ⟨b, off + j, none⟩ = some (.int .i64 (zs.getD j 0))) :
  Calls Tryz.prog 147 #[.slice (some ⟨b, off, none⟩) n c] w fun e w' => ∃ v', e = .returned v' ∧ w'.ownsRow w.heap.size 3 1 v' n ((zs.take n).map (Value.int .i64)) ∧ v' ≠ .slice none 0 0 ∧ Below w.heap.size w w' := Any.slices_Clone_int Tryz.laysNm215 b off n c zs w hz hbig hc
open Go.RowKit Go.Lib in
theorem Tryz.slices_Clone_int_nil (n c : Nat) (w : World) :
  Calls Tryz.prog 147 #[.slice none n c] w fun e w' => e = .returned (.slice none 0 0) ∧ w' = w := Any.slices_Clone_int_nil Tryz.laysNm215 n c w
open Go.RowKit Go.Lib in
theorem Tryz.slices_Clone_int_zero (a : Addr) (c : Nat) (w : World) :
  Calls Tryz.prog 147 #[.slice (some a) 0 c] w fun e w' => ∃ v', e = .returned v' ∧ w'.ownsRow w.heap.size 3 1 v' 0 [] ∧ v' ≠ .slice none 0 0 ∧ Below w.heap.size w w' := Any.slices_Clone_int_zero Tryz.laysNm215 a c w
open Go.RowKit Go.Sort in
theorem Tryz.slices_Sort_int_none (p : Option Addr) (cap : Nat) (w : World) :
  Calls Tryz.prog 50 #[.slice p 0 cap] w fun e w' => e = .returned (.tuple #[]) ∧ w' = w := Any.slices_Sort_int_none Tryz.lays189 p cap w
end Go.Proofs
end
section
namespace Go.Proofs.YthggkidiidnaoaaGreatDoor
set_option linter.unusedVariables false
set_option linter.unusedSimpArgs false
open Go.RowKit Go.Shelf Go.Sort
def sortI (zs : List Int) : List Int := zs.mergeSort fun x y => decide (x ≤ y)
theorem heap_mapBlock_ne {w : World} {blk k : Nat} {f : Array Value → Array Value} (h : k ≠ blk) : (mapBlock w blk f).heap[k]? = w.heap[k]? := by
 unfold mapBlock
 simp only [Array.getElem?_modify]
 rw [if_neg (fun e => h e.symm)]
theorem sort9_any (b n cap : Nat) (zs : List Int) (sp : List Value) (w : World) (hn : zs.length = n) (hB : BoxAt w b (.cells (zs.map (Value.int .i64) ++ sp))) (hl : n ≤ 1000000) :
  Calls Tryz.prog 50 #[.slice (some ⟨b, 0, none⟩) n cap] w fun e w' => e = .returned (.tuple #[]) ∧ Chg [b] w w' ∧ BoxAt w' b (.cells ((sortI zs).map (Value.int .i64) ++ sp)) := by
 have hH : Holds (Value.int .i64) w b 0 zs.toArray := by
  intro j hj
  have hj' : j < zs.length := by simpa using hj
  have := hB.cell _ rfl j (Value.int .i64 zs[j]) (by rw [List.getElem?_append_left (by simpa using hj')]; simp [hj'])
  rw [Nat.zero_add]
  simpa [getElem!_pos, hj'] using this
 subst hn
 refine (Tryz.slices_Sort_int b 0 cap zs w hH hB.lt (by omega)).mono ?_
 rintro e w' ⟨rfl, n, os, rfl⟩
 have hsl : (zs.mergeSort fun x y => decide (x ≤ y)).length = zs.length := List.length_mergeSort _
 have hH2 := holds_putRow (Value.int .i64) (Sort.ahead w n) b 0 zs.toArray (zs.mergeSort fun x y => decide (x ≤ y)).toArray (holds_ahead _ _ _ _ _ _ hH) (by simp [hsl])
 have hsz : (putRow (Value.int .i64) (Sort.ahead w n) b 0 (zs.mergeSort fun x y => decide (x ≤ y)).toArray).heap.size = w.heap.size := by simp [putRow, mapBlock, Sort.ahead]
 have hgr : ∀ k, k < w.heap.size → (grow (putRow (Value.int .i64) (Sort.ahead w n) b 0 (zs.mergeSort fun x y => decide (x ≤ y)).toArray) os).heap[k]? = (putRow (Value.int .i64) (Sort.ahead w n) b 0 (zs.mergeSort fun x y => decide (x ≤ y)).toArray).heap[k]? := fun k hk => by
  show (_ ++ os)[k]? = _
  rw [Array.getElem?_append_left (by rw [hsz]; exact hk)]
 refine ⟨rfl, ⟨rfl, rfl, rfl, by rw [size_grow, hsz]; omega, fun k hk hne => ?_⟩, ⟨by rw [size_grow, hsz]; have := hB.lt; omega, fun cs hc k v hk => ?_, fun es k hc => by cases hc⟩⟩
 ·rw [hgr k hk]; exact heap_mapBlock_ne (by simpa using hne)
 ·cases hc
  have e1 := World.cell?_of_block (w := putRow (Value.int .i64) (Sort.ahead w n) b 0 (zs.mergeSort fun x y => decide (x ≤ y)).toArray) (w' := grow (putRow (Value.int .i64) (Sort.ahead w n) b 0 (zs.mergeSort fun x y => decide (x ≤ y)).toArray) os) (a := ⟨b, k, none⟩) (hgr b hB.lt)
  have e2 := World.frozen?_of_block (w := putRow (Value.int .i64) (Sort.ahead w n) b 0 (zs.mergeSort fun x y => decide (x ≤ y)).toArray) (w' := grow (putRow (Value.int .i64) (Sort.ahead w n) b 0 (zs.mergeSort fun x y => decide (x ≤ y)).toArray) os) (a := ⟨b, k, none⟩) (hgr b hB.lt)
  rw [e1, e2]
  unfold sortI at hk
  rcases Nat.lt_or_ge k zs.length with g | g
  ·have := hH2 k (by simpa [hsl] using g)
   rw [Nat.zero_add] at this
   rw [List.getElem?_append_left (by simpa [hsl] using g), List.getElem?_map, List.getElem?_eq_getElem (by rw [hsl]; exact g)] at hk
   have hv := Option.some.inj hk
   rw [← hv]
   simpa [getElem!_pos, g, hsl] using this
  ·rw [List.getElem?_append_right (by simpa [hsl] using g)] at hk
   have h3 := hB.cell _ rfl k v (by rw [List.getElem?_append_right (by simpa using g)]; simpa [hsl] using hk)
   refine ⟨?_, ?_⟩
   ·rw [cell?_putRow_other _ _ _ _ _ _ (Or.inr (Or.inr (by simpa [hsl] using g)))]
    exact h3.1
   ·unfold putRow; rw [frozen?_mapBlock]; exact h3.2
end Go.Proofs.YthggkidiidnaoaaGreatDoor
end
section
namespace Go.Proofs.YthggkidiidnaoaaGreatDoor
set_option linter.unusedVariables false
set_option linter.unusedSimpArgs false
open Go.RowKit Go.Shelf
structure NewI (B : Nat) (w' : World) (A : Option Addr) (len cap : Nat) (zs : List Int) : Prop where
 isT : IsT 1 intCells w' A len zs
 le : len ≤ cap
 cap : cap ≤ maxLen
 new : ∀ a, A = some a → B ≤ a.block
 lt : ∀ a, A = some a → a.block < w'.heap.size
theorem NewI.below {B : Nat} {w1 w2 : World} {A : Option Addr} {len cap : Nat} {zs : List Int} (h : NewI B w1 A len cap zs) (hb : Below w1.heap.size w1 w2) : NewI B w2 A len cap zs :=
 ⟨h.isT.below hb, h.le, h.cap, h.new, fun a ha => Nat.lt_of_lt_of_le (h.lt a ha) hb.size⟩
theorem NewI.drew {B : Nat} {W : World} {A : Option Addr} {len cap : Nat} {zs : List Int} (h : NewI B W A len cap zs) : NewI B W.drew A len cap zs :=
 h.below ((Below.refl _ _).drew)
theorem NewI.alloc {B : Nat} {W : World} {A : Option Addr} {len cap : Nat} {zs : List Int} (h : NewI B W A len cap zs) (o : Obj) : NewI B (W.alloc o) A len cap zs :=
 h.below ((Below.refl _ _).alloc (Nat.le_refl _) o)
theorem NewI.setCell {B : Nat} {W : World} {A : Option Addr} {len cap : Nat} {zs : List Int} (h : NewI B W A len cap zs) {p : Addr} (hp : ∀ a, A = some a → a.block ≠ p.block) (v : Value) : NewI B (W.setCell p v) A len cap zs :=
 ⟨⟨h.isT.1, fun h0 => by
   obtain ⟨b, o, e, h1, h2⟩ := h.isT.2 h0
   refine ⟨b, o, e, by rw [World.size_setCell]; exact h1, fun j x hx i u hu => ?_⟩
   rw [World.cell?_setCell_other _ _ _ _ (fun e2 => hp _ e (by exact (congrArg Addr.block e2).symm))]
   exact h2 j x hx i u hu⟩, h.le, h.cap, h.new, fun a ha => by rw [World.size_setCell]; exact h.lt a ha⟩
theorem NewI.mono {B B' : Nat} {W : World} {A : Option Addr} {len cap : Nat} {zs : List Int} (h : NewI B W A len cap zs) (hB : B' ≤ B) : NewI B' W A len cap zs :=
 ⟨h.isT, h.le, h.cap, fun a ha => Nat.le_trans hB (h.new a ha), h.lt⟩
structure ZeroL (b n : Nat) (W : World) : Prop where
 lt : b < W.heap.size
 cell : ∀ j, j < n → W.cell? ⟨b, j, none⟩ = some (.int .i64 0)
 mark : ∀ j, j < n → W.frozen? ⟨b, j, none⟩ = false
theorem ZeroL.new (W : World) (n : Nat) (t : TypeId) (hn : n ≤ 1000000000000) : ZeroL W.heap.size n (W.alloc (.cells (madeCells #[.int .i64 0] n) t)) := by
 have hrow := World.ownsRow_lit (base := W.heap.size) (size := 1) (e := t) W (madeCells #[.int .i64 0] n) n (Nat.le_refl _) (by unfold maxLen; omega) (by rw [size_madeCells]; omega)
 refine ⟨by simp, fun j hj => ?_, fun j hj => hrow.frozenAt j⟩
 rw [hrow.cellAt j (by omega), toList_madeCells_one]
 simp [List.getElem?_replicate, hj]
theorem ZeroL.below {b n : Nat} {W W' : World} (h : ZeroL b n W) (hb : Below W.heap.size W W') : ZeroL b n W' :=
 ⟨Nat.lt_of_lt_of_le h.lt hb.size, fun j hj => (hb.cell (p := ⟨b, j, none⟩) h.lt).trans (h.cell j hj), fun j hj => (hb.frozen (p := ⟨b, j, none⟩) h.lt).trans (h.mark j hj)⟩
theorem ZeroL.drew {b n : Nat} {W : World} (h : ZeroL b n W) : ZeroL b n W.drew := h.below ((Below.refl _ _).drew)
theorem ZeroL.alloc {b n : Nat} {W : World} (h : ZeroL b n W) (o : Obj) : ZeroL b n (W.alloc o) := h.below ((Below.refl _ _).alloc (Nat.le_refl _) o)
theorem ZeroL.setCell {b n : Nat} {W : World} (h : ZeroL b n W) {p : Addr} (hp : b ≠ p.block) (v : Value) : ZeroL b n (W.setCell p v) :=
 ⟨by rw [World.size_setCell]; exact h.lt, fun j hj => by
   rw [World.cell?_setCell_other _ _ _ _ (fun e => hp (by exact (congrArg Addr.block e).symm))]; exact h.cell j hj, fun j hj => by rw [World.frozen?_setCell]; exact h.mark j hj⟩
theorem newI_of_row {B : Nat} {w' : World} {e : TypeId} {v : Value} {n : Nat} {zs : List Int} (hz : zs.length = n) (h : w'.ownsRow B e 1 v n (zs.map (Value.int .i64))) :
  ∃ (A : Option Addr) (cap : Nat), v = .slice A n cap ∧ NewI B w' A n cap zs := by
 have h2 := h.2
 rcases h2 with ⟨hv, hn⟩ | ⟨g, cap, cur, hv, hB, hg, hc, hm, hs, ht⟩
 ·subst hn
  exact ⟨none, 0, hv, ⟨⟨hz, fun h0 => absurd h0 (by omega)⟩, Nat.le_refl _, Nat.zero_le _, (fun a ha => by cases ha), (fun a ha => by cases ha)⟩⟩
 ·subst hv
  refine ⟨_, cap, rfl, ⟨⟨hz, fun h0 => ⟨g, 0, rfl, ?_, fun j x hx i v hv => ?_⟩⟩, hc, hm, fun a ha => ?_, fun a ha => ?_⟩⟩
  ·exact (Array.getElem?_eq_some_iff.1 hg).1
  ·have hj : j < n := by rw [← hz]; exact (List.getElem?_eq_some_iff.1 hx).1
   have hi : i = 0 := by
    have := (List.getElem?_eq_some_iff.1 hv).1
    simp [intCells] at this; omega
   subst hi
   have hc := h.cellAt j (by omega)
   rw [List.getElem?_map, hx] at hc
   have hv' : v = .int .i64 x := by simpa [intCells] using hv.symm
   subst hv'
   simpa using hc
  ·obtain rfl := Option.some.inj ha
   exact hB
  ·obtain rfl := Option.some.inj ha
   exact (Array.getElem?_eq_some_iff.1 hg).1
theorem clone_any (A : Option Addr) (len cap : Nat) (zs : List Int) (w : World) (hI : IsT 1 intCells w A len zs) (hl : len ≤ 1000000000000) :
  Calls Tryz.prog 147 #[.slice A len cap] w fun e w' => ∃ (A' : Option Addr) (cap' : Nat), e = .returned (.slice A' len cap') ∧ NewI w.heap.size w' A' len cap' zs ∧ Below w.heap.size w w' := by
 have hz := hI.1
 cases A with
 | none =>
  have h0 : len = 0 := by
   rcases Nat.eq_zero_or_pos len with h | h
   ·exact h
   ·obtain ⟨b, o, e, -, -⟩ := hI.2 h; cases e
  subst h0
  refine (Tryz.slices_Clone_int_nil 0 cap w).mono ?_
  rintro e w' ⟨rfl, rfl⟩
  exact ⟨none, 0, rfl, ⟨⟨hz, fun h0 => absurd h0 (by omega)⟩, Nat.le_refl _, Nat.zero_le _, (fun a ha => by cases ha), (fun a ha => by cases ha)⟩, Below.refl _ _⟩
 | some a =>
  rcases Nat.eq_zero_or_pos len with h | h
  ·subst h
   refine (Tryz.slices_Clone_int_zero a cap w).mono ?_
   rintro e w' ⟨v', rfl, hrow, -, hb⟩
   obtain rfl : zs = [] := List.eq_nil_of_length_eq_zero hz
   obtain ⟨A', cap', rfl, hn⟩ := newI_of_row (zs := []) rfl hrow
   exact ⟨A', cap', rfl, hn, hb⟩
  ·obtain ⟨b, o, e, hb0, hcl⟩ := hI.2 h
   obtain rfl := Option.some.inj e
   refine (Tryz.slices_Clone_int b o len cap zs w (by omega) (by omega) (fun j hj => ?_)).mono ?_
   ·have hx : zs[j]? = some zs[j] := List.getElem?_eq_getElem hj
    have := hcl j _ hx 0 _ rfl
    rw [List.getD_eq_getElem?_getD, hx]
    simpa using this
   ·rintro e w' ⟨v', rfl, hrow, -, hb⟩
    rw [List.take_of_length_le (by omega)] at hrow
    obtain ⟨A', cap', rfl, hn⟩ := newI_of_row hz hrow
    exact ⟨A', cap', rfl, hn, hb⟩
end Go.Proofs.YthggkidiidnaoaaGreatDoor
end
