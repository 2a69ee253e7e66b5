import Derived.Test.YthggkidiidnaoaaGreatWAA
import Derived.Test.YthggkidiidnaoaaGreatWBD
import Derived.Test.YthggkidiidnaoaaGreatWBE
import Derived.RangeFuncNested
import Derived.RangeFuncLeaves
import Derived.RangeFuncBound
import Derived.OwnWalkIn
import Derived.TacticsInMore
import Derived.LoopIn
import Derived.Test.YthggkidiidnaoaaGreatRows
import Derived.KernelRfl
import Derived.Laws.StructEq
namespace Go.Proofs.YthggkidiidnaoaaGreat
set_option linter.unusedVariables false
set_option linter.unusedSimpArgs false
section
set_option autoImplicit false
open Go.RowKit
theorem Chg.trans {X : List Nat} {A B C : World} (h : Chg X A B) (k : Chg X B C) : Chg X A C :=
 ⟨k.os.trans h.os, k.tape.trans h.tape, k.output.trans h.output, Nat.le_trans h.size k.size, fun b hb hx => (k.block b (Nat.lt_of_lt_of_le hb h.size) hx).trans (h.block b hb hx)⟩
theorem Chg.mono {X Y : List Nat} {A B : World} (h : Chg X A B) (hX : ∀ x ∈ X, x ∈ Y) : Chg Y A B :=
 ⟨h.os, h.tape, h.output, h.size, fun b hb hy => h.block b hb (fun hx => hy (hX b hx))⟩
theorem Chg.putObj {W : World} {l : Nat} {o o' : Obj} (h : W.heap[l]? = some o) : Chg [l] W (W.putObj l o') :=
 ⟨rfl, rfl, rfl, by simp [World.putObj], fun b _ hb => World.putObj_heap_other (by simpa using hb)⟩
structure Mv (n0 : Nat) (Z : List Nat) (W W' : World) : Prop where
 os : W'.os = W.os
 tape : W'.tape = W.tape
 output : W'.output = W.output
 size : W.heap.size ≤ W'.heap.size
 block : ∀ b, b < W.heap.size → b ∉ Z → (b < n0 ∨ ∃ o : Obj, W.heap[b]? = some o ∧ o.isCells = true) → W'.heap[b]? = W.heap[b]?
theorem Mv.of_chg {n0 : Nat} {Z : List Nat} {W W' : World} (h : Chg Z W W') : Mv n0 Z W W' := ⟨h.os, h.tape, h.output, h.size, fun b hb hz _ => h.block b hb hz⟩
theorem Mv.low {n0 m0 : Nat} {Z : List Nat} {W W' : World} (h : Mv n0 Z W W') (hm : m0 ≤ n0) : Mv m0 Z W W' :=
 ⟨h.os, h.tape, h.output, h.size, fun b hb hz hc => h.block b hb hz (hc.imp (fun h => by omega) id)⟩
theorem Mv.trans {n0 : Nat} {Z : List Nat} {A B C : World} (h : Mv n0 Z A B) (k : Mv n0 Z B C) : Mv n0 Z A C :=
 ⟨k.os.trans h.os, k.tape.trans h.tape, k.output.trans h.output, Nat.le_trans h.size k.size, fun b hb hz hc => by
  have e := h.block b hb hz hc
  exact (k.block b (Nat.lt_of_lt_of_le hb h.size) hz (hc.imp id (fun ⟨o, ho, hk⟩ => ⟨o, e.trans ho, hk⟩))).trans e⟩
theorem Mv.wider {n0 : Nat} {Z Z' : List Nat} {W W' : World} (h : Mv n0 Z W W') (hz : ∀ z ∈ Z, z ∈ Z') : Mv n0 Z' W W' :=
 ⟨h.os, h.tape, h.output, h.size, fun b hb hz' hc => h.block b hb (fun h => hz' (hz b h)) hc⟩
theorem Mv.putObj {n0 l : Nat} {Z : List Nat} {W : World} {o o' : Obj} (hl : n0 ≤ l) (h : W.heap[l]? = some o) (hc : o.isCells = false) : Mv n0 Z W (W.putObj l o') :=
 ⟨rfl, rfl, rfl, by simp [World.putObj], fun b hb _ hk => World.putObj_heap_other (fun e => by
  subst e
  rcases hk with g | ⟨o2, h2, g⟩
  ·omega
  ·rw [h] at h2; cases h2; rw [hc] at g; cases g)⟩
theorem IsT.keep {α : Type} {z n : Nat} {enc : α → List Value} {w w' : World} {A : Option Addr} {zs : List α} (h : IsT z enc w A n zs) (hs : w.heap.size ≤ w'.heap.size) (hk : ∀ b o, A = some ⟨b, o, none⟩ → 0 < n → w'.heap[b]? = w.heap[b]?) : IsT z enc w' A n zs :=
 ⟨h.1, fun h0 => by
  obtain ⟨b, o, e, h1, h2⟩ := h.2 h0
  exact ⟨b, o, e, Nat.lt_of_lt_of_le h1 hs, fun j x hx i v hv => (World.cell?_of_block (w := w) (w' := w') (a := ⟨b, _, none⟩) (hk b o e h0)).trans (h2 j x hx i v hv)⟩⟩
theorem IsT.mv {α : Type} {z n n0 : Nat} {Z : List Nat} {enc : α → List Value} {w w' : World} {A : Option Addr} {zs : List α} (hc : ∀ x, 0 < (enc x).length) (h : IsT z enc w A n zs) (hm : Mv n0 Z w w') (hz : ∀ b o, A = some ⟨b, o, none⟩ → b ∉ Z) : IsT z enc w' A n zs :=
 h.keep hm.size fun b o e h0 => by
  obtain ⟨b', o', e', h1, h2⟩ := h.2 h0
  rw [e] at e'; cases e'
  have hl : 0 < zs.length := by rw [h.1]; exact h0
  have hx := List.getElem?_eq_getElem hl
  have hv := List.getElem?_eq_getElem (hc zs[0])
  exact hm.block b h1 (hz b o e) (Or.inr (cells_of_cell (h2 0 _ hx 0 _ hv)))
theorem IsT.chg {α : Type} {z n : Nat} {X : List Nat} {enc : α → List Value} {w w' : World} {A : Option Addr} {zs : List α} (h : IsT z enc w A n zs) (hm : Chg X w w') (hz : ∀ b o, A = some ⟨b, o, none⟩ → b ∉ X) : IsT z enc w' A n zs :=
 h.keep hm.size fun b o e h0 => by
  obtain ⟨b', o', e', h1, h2⟩ := h.2 h0
  rw [e] at e'; cases e'
  exact hm.block b h1 (hz b o e)
theorem roundIn_n {n m : Nat} {P : Program} {l : Nat} {f : FuncId} {tmps : Array Value} {assign body : Code} {w : World} {R : Ending → World → Prop} (h : RoundIn Fence.wide n P l f tmps assign body w R) : RoundIn Fence.wide m P l f tmps assign body w R :=
 ⟨h.1, fun c cs _ => h.2 c cs (room_wide _)⟩
theorem callsIn_n {n m : Nat} {P : Program} {f : FuncId} {args : Array Value} {w : World} {R : Ending → World → Prop} (h : CallsIn Fence.wide n P f args w R) : CallsIn Fence.wide m P f args w R := callsIn_wide.2 (callsIn_wide.1 h)
def IterAll {α : Type} (P : Program) (gf : Nat) (lb : Array Value) (enc : α → Value) (Good : List Nat → Nat → α → World → Prop) (X : List Nat) (zl N : Nat) (w : World) : Prop :=
 ∀ (l : Nat) (J : List Nat → Nat → World → Prop) (W : World), Below w.heap.size w W → w.heap.size ≤ l → l < W.heap.size →
  (∀ Z k W1 W2, J Z k W1 → Mv W.heap.size Z W1 W2 → J Z k W2) →
  (∀ Z k x W1, k < N → J Z k W1 → Good Z k x W1 → YieldAt Fence.wide 0 P l #[enc x] W1 (fun e W2 => e = .returned (.bool true) ∧ J Z (k + 1) W2 ∧ Chg (l :: X) W1 W2)) →
  (∀ Z : List Nat, Z.length = zl → (∀ z ∈ Z, W.heap.size ≤ z) → J Z 0 W) →
  CallsIn Fence.wide 0 P gf (#[.func (.yield l) #[] #[]] ++ lb) W (fun e W' => (∃ v, e = .returned v) ∧ ∃ Z, J Z N W')
theorem wpIn_range_all {α : Type} {P : Program} {n : Nat} {g : Operand} {p : Tmp} {assign body : Code} {Q : Exit → Act → World → Prop} {a : Act} {w : World} {gf : Nat} {lb : Array Value} (hg : a.eval g = .func (.func gf) #[] lb) (eg : ∀ args w, (callFunc gf args).run P w = .ok (.enter gf args) w)
  {enc : α → Value} {Good : List Nat → Nat → α → World → Prop} {X : List Nat} {zl N : Nat} (hseq : IterAll P gf lb enc Good X zl N w) (I : List Nat → Nat → World → Prop)
  (hI : ∀ Z k W1 W2, I Z k W1 → Mv w.heap.size Z W1 W2 → I Z k W2) (h0 : ∀ Z : List Nat, Z.length = zl → (∀ z ∈ Z, w.heap.size < z) → I Z 0 w)
  (hround : ∀ (l : Nat) (Z : List Nat) (k : Nat) (x : α) (W : World), w.heap.size ≤ l → w.heap.size ≤ W.heap.size → I Z k W → Good Z k x W → k < N →
   assign.wpIn (Fence.wide.inRound l) 0 P (Exit.then (fun a1 W1 => Chg X W W1 ∧ ∀ W2, Mv w.heap.size [] W1 W2 → body.wpIn (Fence.wide.inRound l) 0 P (fun e a3 W3 => e = .normal ∧ I Z (k + 1) W3 ∧ Chg X W2 W3) a1 W2) (fun _ _ _ => False))
    { tmps := a.tmps.setIfInBounds p (enc x), defers := [] } W)
  (hXw : ∀ x ∈ X, x < w.heap.size)
  (hdone : ∀ (D : Nat) (Z : List Nat) (W : World), w.heap.size ≤ D → I Z N W → W.heap[D]? = some (.deferred (some [])) → Q .normal { a with defers := { target := .collected D, args := #[] } :: a.defers } W) :
  (Code.rangeFunc g #[p] assign body).wpIn Fence.wide n P Q a w := by
 refine wpIn_rangeFunc ?_
 intro fn hfn
 obtain ⟨rec, hrec⟩ : ∃ rec : LoopState → Loop, rec = fun st => { state := st, pending := none, fn, tmps := a.tmps, params := #[p], assign, body, defers := w.heap.size } := ⟨_, rfl⟩
 obtain ⟨W1, hW1⟩ : ∃ W1, (w.alloc (.deferred (some []))).alloc (.loop (rec .ready)) = W1 := ⟨_, rfl⟩
 have hL1 : W1.heap[w.heap.size + 1]? = some (.loop (rec .ready)) := by
  rw [← hW1]; have := World.alloc_heap_new (w.alloc (.deferred (some []))) (.loop (rec .ready)); rwa [World.size_alloc] at this
 have hK1 : W1.heap[w.heap.size]? = some (.deferred (some [])) := by
  rw [← hW1]; exact (Below.heap_alloc _ _ _ (by simp)).trans (World.alloc_heap_new w _)
 have hb1 : Below w.heap.size w W1 := by rw [← hW1]; exact ((Below.refl _ w).alloc (Nat.le_refl _) _).alloc (by simp) _
 have hs1 : W1.heap.size = w.heap.size + 2 := by rw [← hW1]; simp
 refine ⟨w.heap.size + 1, [{ target := .collected w.heap.size, args := #[] }], W1, { target := .fn (.func gf) lb, args := #[.func (.yield (w.heap.size + 1)) #[] #[]] }, W1, gf,
  #[.func (.yield (w.heap.size + 1)) #[] #[]] ++ lb, W1, ?_, ?_, ?_, ?_, (fun h => by cases h), ?_⟩
 ·rw [← hW1, hrec]; exact run_enterLoop_outer _ _ _ _ _
 ·simp only [resolve, hg]; simp [go_sem]
 ·intro f' _; trivial
 ·simp [invoke, go_sem, eg]
 ·refine callsIn_n ((hseq (w.heap.size + 1) (fun Z k W => I Z k W ∧ (∀ z ∈ Z, W1.heap.size ≤ z) ∧ W.heap[w.heap.size + 1]? = some (.loop (rec .ready)) ∧ W.heap[w.heap.size]? = some (.deferred (some []))) W1 hb1 om9 om9 ?_ ?_ ?_).mono ?_)
  ·rintro Z k A B ⟨hi, hz, hl, hk⟩ hm
   have l1 := (Array.getElem?_eq_some_iff.1 hl).1
   refine ⟨hI _ _ _ _ hi (hm.low om9), hz, (hm.block _ l1 (fun h => by have := hz _ h; omega) (Or.inl om9)).trans hl, (hm.block _ om9 (fun h => by have := hz _ h; omega) (Or.inl om9)).trans hk⟩
  ·rintro Z k x W hkN ⟨hi, hz, hl, hk⟩ hgd
   have hlt : w.heap.size + 1 < W.heap.size := (Array.getElem?_eq_some_iff.1 hl).1
   have hy := run_yield (P := P) (args := #[enc x]) hl (by rw [hrec]; rfl)
   rw [hrec] at hy
   refine ⟨fn, _, assign, body, hy, roundIn_n (roundIn_of_wpIn (n := 0) hfn ?_)⟩
   have hzip : ((#[p] : Array Tmp).zip #[enc x]).foldl (fun t q => t.setIfInBounds q.1 q.2) a.tmps = a.tmps.setIfInBounds p (enc x) := by first | rfl | simp
   show assign.wpIn (Fence.wide.inRound _) 0 P _ ({ tmps := ((#[p] : Array Tmp).zip #[enc x]).foldl (fun t q => t.setIfInBounds q.1 q.2) a.tmps, defers := [] } : Act) W
   rw [hzip]
   refine wpIn_mono (hround (w.heap.size + 1) Z k x W om9 om9 hi hgd hkN) ?_
   rintro e a1 Wa hp
   cases e with
   | normal =>
    obtain ⟨hc1, hp⟩ := hp
    have e1 : Wa.heap[w.heap.size + 1]? = some (.loop (rec .ready)) := (hc1.block _ hlt (fun h => by have := hXw _ h; omega)).trans hl
    have k1 : Wa.heap[w.heap.size]? = some (.deferred (some [])) := (hc1.block _ om9 (fun h => by have := hXw _ h; omega)).trans hk
    have hla := (Array.getElem?_eq_some_iff.1 e1).1
    have hsz : (Wa.putObj (w.heap.size + 1) (.loop { rec .ready with state := .busy })).heap.size = Wa.heap.size := by simp [World.putObj]
    have e2 : (Wa.putObj (w.heap.size + 1) (.loop { rec .ready with state := .busy })).heap[w.heap.size + 1]? = some (.loop { rec .ready with state := .busy }) := World.putObj_heap_same hla
    have k2 : (Wa.putObj (w.heap.size + 1) (.loop { rec .ready with state := .busy })).heap[w.heap.size]? = some (.deferred (some [])) := (World.putObj_heap_other om9).trans k1
    refine ⟨_, run_beginRound e1 (by rw [hrec]), wpIn_mono (hp _ (Mv.putObj om9 e1 rfl)) ?_⟩
    rintro e a3 W3 ⟨rfl, hi3, hc3⟩
    have e3 : W3.heap[w.heap.size + 1]? = some (.loop { rec .ready with state := .busy }) := (hc3.block _ (by rw [hsz]; exact hla) (fun h => by have := hXw _ h; omega)).trans e2
    have k3 : W3.heap[w.heap.size]? = some (.deferred (some [])) := (hc3.block _ (by rw [hsz]; omega) (fun h => by have := hXw _ h; omega)).trans k2
    have hend := run_endRound (P := P) none e3
    rw [hrec] at hend e3
    have e4 : (W3.putObj (w.heap.size + 1) (.loop (rec .ready))).heap[w.heap.size + 1]? = some (.loop (rec .ready)) := World.putObj_heap_same (Array.getElem?_eq_some_iff.1 e3).1
    refine ⟨_, _, hend, rfl, ⟨?_, hz, ?_, ?_⟩, ?_⟩
    ·exact hI _ _ _ _ hi3 (Mv.putObj om9 e3 rfl)
    ·rw [hrec] at e4; rw [hrec]; exact e4
    ·exact (World.putObj_heap_other om9).trans k3
    ·refine (hc1.mono (fun x hx => List.mem_cons_of_mem _ hx)).trans (((Chg.putObj e1).mono (fun x hx => by simp at hx; simp [hx])).trans ((hc3.mono (fun x hx => List.mem_cons_of_mem _ hx)).trans ((Chg.putObj e3).mono (fun x hx => by simp at hx; simp [hx]))))
   | exit id => exact hp.elim
   | goto t => exact hp.elim
   | ret => exact hp.elim
   | panic chain => exact hp.elim
   | outgrown => exact hp.elim
  ·intro Z hl hz
   exact ⟨hI _ _ _ _ (h0 Z hl (fun z h => by have := hz z h; omega)) (Mv.of_chg (Chg.of_below _ hb1)), hz, hL1, hK1⟩
  ·rintro e W2 ⟨⟨v, rfl⟩, Z, hi, hz, hl, hk⟩
   refine ⟨none, _, by have := run_endLoop (P := P) hl (by rw [hrec]; simp); rw [hrec] at this; exact this, hdone _ Z _ (Nat.le_refl _) (hI _ _ _ _ hi (Mv.putObj om9 hl rfl)) ((World.putObj_heap_other om9).trans hk)⟩
end
section
set_option autoImplicit false
open Go.RowKit
def Wide (F : Fence) : Prop := F = Fence.wide ∨ ∃ l, F = Fence.wide.inRound l
theorem Wide.fn {F : Fence} (h : Wide F) (f : FuncId) : F.fn f := by rcases h with rfl | ⟨l, rfl⟩ <;> trivial
theorem Wide.depth {F : Fence} (h : Wide F) : F.depth = none := by rcases h with rfl | ⟨l, rfl⟩ <;> rfl
theorem Wide.calls {F : Fence} (h : Wide F) {n : Nat} {P : Program} {f : FuncId} {args : Array Value} {w : World} {R : Ending → World → Prop} (k : Calls P f args w R) : CallsIn F n P f args w R := by
 rcases h with rfl | ⟨l, rfl⟩
 ·exact callsIn_wide.2 k
 ·exact CallsIn.inRound l (callsIn_wide.2 k)
theorem Wide.rows {F : Fence} (h : Wide F) {n : Nat} {P : Program} {row : String} {args : Array Value} {w : World} {R : Value → World → Prop} (k : Rows P row args w R) : _root_.Go.RowsIn F n P row args w R := by
 have key : _root_.Go.RowsIn Fence.wide n P row args w R := fun c cs _ => by
  obtain ⟨v, w', r, s⟩ := k c cs
  exact ⟨v, w', r, stepsIn_wide.2 s⟩
 rcases h with rfl | ⟨l, rfl⟩
 ·exact key
 ·exact key
theorem Wide.round {F : Fence} (h : Wide F) {n m : Nat} {P : Program} {l : Nat} {f : FuncId} {tmps : Array Value} {assign body : Code} {w : World} {R : Ending → World → Prop} (k : RoundIn Fence.wide n P l f tmps assign body w R) : RoundIn F m P l f tmps assign body w R := by
 have key : RoundIn Fence.wide m P l f tmps assign body w R := roundIn_n k
 rcases h with rfl | ⟨l, rfl⟩
 ·exact key
 ·exact key
theorem Wide.sem {F : Fence} (h : Wide F) (ρ : Operand → Value) (o : Oper) (hd : ∀ c, o.op ≠ .defer c) : Oper.semAt F.round ρ o = execOp ρ o := Oper.semAt_eq _ ρ o hd
def noDefer (os : List Oper) : Bool := os.all fun o => match o.op with | .defer _ => false | _ => true
theorem noDefer_cons {o : Oper} {os : List Oper} (h : noDefer (o :: os) = true) : (∀ c, o.op ≠ .defer c) ∧ noDefer os = true := by
 simp only [noDefer, List.all_cons, Bool.and_eq_true] at h
 refine ⟨fun c hc => ?_, h.2⟩
 rw [hc] at h
 exact absurd h.1 (by simp)
theorem listIn_of {F : Fence} (hF : Wide F) {n : Nat} {P : Program} {ops : Array Oper} {Q : Exit → Act → World → Prop} (hQ : ¬ LetsOut Q) : ∀ (rest : List Oper) (a : Act) (w : World), noDefer rest = true → wpList P ops Q rest a w → wpListIn F n P ops Q rest a w := by
 intro rest
 induction rest with
 | nil => intro a w _ h; exact h
 | cons o rest ih =>
  intro a w hd h
  obtain ⟨hd1, hd2⟩ := noDefer_cons hd
  unfold wpList at h
  unfold wpListIn
  split
  ·rename_i hw
   rw [if_pos hw] at h
   rcases h with h | h
   ·refine ⟨fun f _ => hF.fn f, ?_⟩
    rw [hF.sem _ _ hd1]
    unfold Oper.wp at h
    revert h
    generalize (execOp a.eval o).run P w = r
    intro h
    cases r with
    | ok x w' =>
     cases x <;> simp only [Oper.upon, Oper.uponIn] at h ⊢ <;>
      first
       | exact h.elim
       | exact ih _ _ hd2 h
       | exact ⟨fun e => (by rw [hF.depth] at e; cases e), hF.calls (h.mono fun e w'' he => by cases e <;> first | exact ih _ _ hd2 he | exact he)⟩
       | exact ⟨fun e => (by rw [hF.depth] at e; cases e), hF.rows (h.mono fun _ _ he => ih _ _ hd2 he)⟩
    | halt x w' => cases x <;> simp only [Oper.upon, Oper.uponIn] at h ⊢ <;> first | exact h.elim | exact h
   ·exact absurd h.2 hQ
  ·rename_i hw
   rw [if_neg hw] at h
   exact ⟨fun f _ => hF.fn f, ih _ _ hd2 h⟩
abbrev LI (F : Fence) (P : Program) (ops : Array Oper) (Q : Exit → Act → World → Prop) (e0 : Cfg) (U : Snaps) (l : Slots) (L : Boxes) (rest : List Oper) : Prop := AQ e0 U l L (wpListIn F 0 P ops Q rest)
abbrev CI (F : Fence) (P : Program) (e0 : Cfg) (U : Snaps) (l : Slots) (L : Boxes) (c : Code) (Q : Exit → Act → World → Prop) : Prop := AQ e0 U l L (Code.wpIn F 0 P c Q)
section
variable {F : Fence} {P : Program} {e0 : Cfg} {U : Snaps} {l : Slots} {L : Boxes} {ops : Array Oper} {Q : Exit → Act → World → Prop} {rest : List Oper} {d : Nat} {v : Value}
variable {ty : TypeId} {pos : String} {af : Array Edge} {g : Option (Nat × Bool)} {dd : Option Nat} {o : Oper}
theorem ci_seq {x y : Code} (k : CI F P e0 U l L x (Exit.then (y.wpIn F 0 P Q) Q)) : CI F P e0 U l L (.seq x y) Q := fun a w hf hs => wpIn_seq (k a w hf hs)
theorem ci_skip (k : AQ e0 U l L (Q .normal)) : CI F P e0 U l L .skip Q := fun a w hf hs => wpIn_skip (k a w hf hs)
theorem ci_block {id : Nat} {c : Code} (k : CI F P e0 U l L c (Exit.inBlock id Q)) : CI F P e0 U l L (.block id c) Q := fun a w hf hs => wpIn_block (k a w hf hs)
theorem ci_condF {c : Operand} {x y : Code} (hc : E l c = some (.bool false)) (k : CI F P e0 U l L y Q) : CI F P e0 U l L (.cond c x y) Q := fun a w hf hs => wpIn_cond_false (hf.ev hc) (k a w hf hs)
theorem ci_region {id : Nat} {os : List Oper} (hF : Wide F) (hQ : ¬ LetsOut Q) (hd : noDefer os = true) (k : AL P os.toArray Q e0 U l L os) : CI F P e0 U l L (.region id os.toArray false) Q := fun a w hf hs => wpIn_region_lit (listIn_of hF hQ os a w hd (k a w hf hs))
theorem ci_regionY {id : Nat} {os : List Oper} (k : LI F P os.toArray Q e0 U l L os) : CI F P e0 U l L (.region id os.toArray false) Q := fun a w hf hs => wpIn_region_lit (k a w hf hs)
theorem li_end (k : AQ e0 U l L (Q .normal)) : LI F P ops Q e0 U l L [] := fun a w hf hs => k a w hf hs
theorem li_q (hF : Wide F) (hd1 : noDefer [o] = true) (q : Q1 P e0 U l L o v) (hd : o.dst = some d) (hn : Nat.blt d e0.n = true) (hw : want ops l o.guard = some true) (k : LI F P ops Q e0 U ((d, v) :: l) L rest) : LI F P ops Q e0 U l L (o :: rest) := by
 intro a w hf hs
 unfold wpListIn
 rw [if_pos (want_ok hf hw)]
 refine ⟨fun f _ => hF.fn f, ?_⟩
 rw [hF.sem _ _ (noDefer_cons hd1).1, q a w hf hs]
 show wpListIn F 0 P ops Q rest (a.put o.dst v) w
 rw [hd]
 exact k _ _ (hf.put hn v) hs
theorem li_yield {of : Operand} {ly : Nat} {xs : List Operand} {vs : List Value} {ats : Array TypeId} (hF : Wide F) (hof : E l of = some (.func (.yield ly) #[] #[])) (hxs : Es l xs vs) (hn : Nat.blt d e0.n = true) (hw : want ops l g = some true)
  (k : ∀ w, Sta e0 U L w → YieldAt Fence.wide 0 P ly vs.toArray w (fun e w' => ∃ v, e = .returned v ∧ LI F P ops Q ⟨e0.n, e0.D, w', []⟩ [] ((d, v) :: l) [] rest)) :
  LI F P ops Q e0 U l L (⟨some d, .call ⟨.value of, xs.toArray, ats⟩, ty, pos, af, g⟩ :: rest) := by
 intro a w hf hs
 unfold wpListIn
 rw [if_pos (want_ok hf hw)]
 refine ⟨fun f _ => hF.fn f, ?_⟩
 rw [hF.sem _ _ (fun c h => by cases h)]
 obtain ⟨fn, tmps, assign, body, hy, hR⟩ := k w hs
 have hargs : xs.toArray.map a.eval = vs.toArray := Array.ext' (by simp [Es.map hf hxs])
 have hrun : (execOp a.eval ⟨some d, .call ⟨.value of, xs.toArray, ats⟩, ty, pos, af, g⟩).run P w = .ok (.round ly fn tmps assign body) w := by
  simp only [execOp, resolve, hargs, hf.ev hof, Deferred.ofValue]
  simp [invoke, hy]
 rw [hrun]
 refine ⟨fun e => (by rw [hF.depth] at e; cases e), hF.round (hR.mono ?_)⟩
 rintro e w' ⟨v, rfl, hk⟩
 have hf' : Fr ⟨e0.n, e0.D, w', []⟩ ((d, v) :: l) (a.put (some d) v) := by
  have := hf.put hn v
  exact ⟨this.size, this.defers, this.slot⟩
 exact hk _ _ hf' (Sta.start _ _ _)
end
theorem Sta.cellL {E : Cfg} {U : Snaps} {L : Boxes} {w : World} (h : Sta E U L w) {b k : Nat} (hb : b < E.w.heap.size) (hn : b ∉ E.lent) : w.cell? ⟨b, k, none⟩ = E.w.cell? ⟨b, k, none⟩ := World.cell?_of_block (w := E.w) (w' := w) (a := ⟨b, k, none⟩) (h.chg.block b hb hn)
theorem Fr.rebase {n : Nat} {D : List Deferred} {w0 w1 : World} {bs bs' : List Nat} {l : Slots} {a : Act} (h : Fr ⟨n, D, w0, bs⟩ l a) : Fr ⟨n, D, w1, bs'⟩ l a := ⟨h.size, h.defers, h.slot⟩
theorem Fr.setp {n : Nat} {D : List Deferred} {w0 w1 : World} {bs bs' : List Nat} {l : Slots} {a : Act} (h : Fr ⟨n, D, w0, bs⟩ l a) {p : Nat} (hp : Nat.blt p n = true) (v : Value) : Fr ⟨n, [], w1, bs'⟩ ((p, v) :: l) { tmps := a.tmps.setIfInBounds p v, defers := [] } := by
 have := h.put hp v
 exact ⟨this.size, rfl, this.slot⟩
theorem Fr.marked {n : Nat} {w0 : World} {bs : List Nat} {l : Slots} {a : Act} (h : Fr ⟨n, [], w0, bs⟩ l a) (x : Deferred) : Fr ⟨n, [x], w0, bs⟩ l { a with defers := x :: a.defers } := ⟨h.size, by rw [h.defers], h.slot⟩
theorem ci_go {F : Fence} {P : Program} {e0 : Cfg} {U : Snaps} {l : Slots} {L : Boxes} {c : Code} {Q : Exit → Act → World → Prop} {a : Act} {w : World} (hf : Fr e0 l a) (hs : Sta e0 U L w) (k : CI F P e0 U l L c Q) : c.wpIn F 0 P Q a w := k a w hf hs
def postM (P : Program) (fn : Func) (R : Ending → World → Prop) : Exit → Act → World → Prop
 | .normal, a, w | .ret, a, w => LeavesInM Fence.wide 0 P fn a.tmps R a.defers .returning w
 | _, _, _ => False
theorem postM.up {P : Program} {fn : Func} {R : Ending → World → Prop} : ∀ e a w, postM P fn R e a w → bodyPostM Fence.wide 0 P fn R e a w
 | .normal, _, _, h => h
 | .ret, _, _, h => h
 | .exit _, _, _, h => h.elim
 | .goto _, _, _, h => h.elim
 | .panic _, _, _, h => h.elim
 | .outgrown, _, _, h => h.elim
theorem calls_axM {P : Program} {f : FuncId} {fn : Func} {c : Code} {vs : List Value} {w : World} {R : Ending → World → Prop} (hf : P.funcs[f]? = some fn) (hb : fn.body = some c) (hn : Nat.ble vs.length fn.ntmps = true)
  (k : AC P ⟨fn.ntmps, [], w, []⟩ [] (num 0 vs) [] c (postM P fn R)) : Calls P f vs.toArray w R :=
 callsIn_wide.1 (callsIn_of_wp_marks (n := 0) hf hb trivial (Go.wpIn_mono (wpIn_wide.2 (k _ w (Fr.start fn.ntmps w [] vs hn) (Sta.start _ _ w))) postM.up) rfl)
theorem callsIn_axM {P : Program} {f : FuncId} {fn : Func} {c : Code} {vs : List Value} {w : World} {R : Ending → World → Prop} (hf : P.funcs[f]? = some fn) (hb : fn.body = some c) (hn : Nat.ble vs.length fn.ntmps = true)
  (k : CI Fence.wide P ⟨fn.ntmps, [], w, []⟩ [] (num 0 vs) [] c (postM P fn R)) : CallsIn Fence.wide 0 P f vs.toArray w R :=
 callsIn_of_wp_marks (n := 0) hf hb trivial (Go.wpIn_mono (k _ w (Fr.start fn.ntmps w [] vs hn) (Sta.start _ _ w)) postM.up) rfl
theorem marks_end {P : Program} {fn : Func} {R : Ending → World → Prop} {a : Act} {w : World} {D : Nat} {v : Value} (hd : a.defers = [{ target := .collected D, args := #[] }]) (hD : w.heap[D]? = some (.deferred (some [])))
  (hr : ∀ w', (results fn a.tmps).run P w' = .ok v w') (hR : ∀ w', Mv D [] w w' → Chg [D] w w' → R (.returned v) w') : LeavesInM Fence.wide 0 P fn a.tmps R a.defers .returning w := by
 rw [hd]
 refine ⟨by simp, .inl ⟨_, _, rfl, run_takeDeferred hD, ?_⟩⟩
 exact ⟨v, hr _, hR _ (Mv.putObj (Nat.le_refl _) hD rfl) (Chg.putObj hD)⟩
end
section
open Go.RowKit Go.Shelf
attribute [local go_sem] Oper.semAt_some
structure DrvR where
 (A1 A2 : Option Addr) (l1 c1 l2 c2 : Nat)
abbrev DrvR.v (r : DrvR) : Value := .agg #[.slice r.A1 r.l1 r.c1, .slice r.A2 r.l2 r.c2]
def DrvR.cells (r : DrvR) : List Value := [.slice r.A1 r.l1 r.c1, .slice r.A2 r.l2 r.c2]
set_option maxRecDepth 100000 in
set_option maxHeartbeats 4000000 in
theorem values1_any (bv N dc : Nat) (DL : Option Addr) (ds : List DrvR) (X : List Nat) (w : World) (hbv : w.cell? ⟨bv, 0, none⟩ = some (.slice DL N dc)) (lbv : bv < w.heap.size) (hI : IsT 2 DrvR.cells w DL N ds) (hN : N ≤ 1000000) (x1 : bv ∉ X) (x2 : ∀ b o, DL = some ⟨b, o, none⟩ → b ∉ X) :
  IterAll Tryz.prog 92 #[.pointer (some ⟨bv, 0, none⟩)] DrvR.v (fun _ k x _ => ds[k]? = some x) X 0 N w := by
 intro l J W hw hl hl2 hJ hY h0
 have HJ := Lib.hid hJ
 have HY := Lib.hid hY
 have hf2 : ∀ W2, Chg (l :: X) W W2 → IsT 2 DrvR.cells W2 DL N ds := fun W2 hc => by
  refine (hI.below hw).keep hc.size fun b o e h0 => ?_
  obtain ⟨b', o', e', h1, h2⟩ := hI.2 h0
  rw [e] at e'; cases e'
  exact hc.block b (Nat.lt_of_lt_of_le h1 hw.size) (fun h => by
   rcases List.mem_cons.1 h with h | h
   ·omega
   ·exact x2 b o e h)
 have HF := Lib.hid hf2
 have hJ0 : J [] 0 W := h0 [] rfl (fun z h => by cases h)
 have cb := (hw.cell (p := ⟨bv, 0, none⟩) lbv).trans hbv
 clear hJ hY h0 hf2 hI hbv x1 x2
 show CallsIn _ _ _ _ #[.func (.yield l) #[] #[], .pointer (some ⟨bv, 0, none⟩)] W _
 refine callsIn_of_wp Tryz.func92 rfl trivial ?_ rfl
 simp only [Tryz.ntmps92, List.size_toArray, List.length_cons, List.length_nil, Nat.reduceAdd, Nat.reduceSub, Array.replicate_succ, Array.replicate_zero, List.push_toArray, List.append_toArray, List.nil_append, List.cons_append]
 gi_wp2
 gi_loopw [7] (fun i wx => ∃ k : Nat, k ≤ N ∧ i = .int .i64 k ∧ J [] k wx ∧ Chg (l :: X) W wx) (fun i _ => N - (intOf i).toNat)
 case atStart => exact ⟨0, Nat.zero_le _, rfl, hJ0, Chg.refl _ _⟩
 case round =>
  obtain ⟨k, hk, rfl, hJs, hB⟩ := hrel
  by_cases hlt : k < N
  ·obtain ⟨hlen, hcf⟩ := HF.out wr hB
   obtain ⟨bf, of, rfl, hbf, hcg⟩ := hcf om9
   obtain ⟨s, hs⟩ : ∃ s, ds[k]? = some s := ⟨_, List.getElem?_eq_getElem om9⟩
   have e0 : wr.cell? ⟨bf, of + k * 2, none⟩ = some (.slice s.A1 s.l1 s.c1) := by have h := hcg k s hs 0 _ rfl; simpa using h
   have e1 : wr.cell? ⟨bf, of + k * 2 + 1, none⟩ = some (.slice s.A2 s.l2 s.c2) := by have h := hcg k s hs 1 _ rfl; simpa using h
   have HYk := Lib.hid (fun W1 (hJ1 : J [] k W1) => HY.out [] k s W1 hlt hJ1 hs)
   clear hcf hcg hs hlen
   gi_wp2_with fail
   have hA : Below wr.heap.size wr (wr.alloc (.cells #[.slice s.A1 s.l1 s.c1, .slice s.A2 s.l2 s.c2] 79)) := (Below.refl _ _).alloc (Nat.le_refl _) _
   have hJ1 := HJ.out _ _ _ _ hJs (Mv.of_chg (Chg.of_below _ hA))
   obtain ⟨fn, tmps, assign, body, hy, hR⟩ := HYk.out _ hJ1
   rw [show Instr.yield l #[.agg #[.slice s.A1 s.l1 s.c1, .slice s.A2 s.l2 s.c2]] = Instr.yield l #[s.v] from rfl, hy]
   refine ⟨fun h => (by cases h), (roundIn_n hR).mono ?_⟩
   clear hR hy
   rintro e W3 ⟨rfl, hJ3, hk3⟩
   have hB3 := (hB.trans (Chg.of_below (l :: X) hA)).trans hk3
   gi_wp2
   go_roundw
   case rel => exact ⟨k + 1, by omega, by go_num, hJ3, hB3⟩
   case measure => simp [intOf]; omega
  ·obtain rfl : k = N := by omega
   gi_wp2
   go_end0
   exact ⟨⟨_, rfl⟩, [], hJs⟩
end
section
open Go.RowKit
structure StR.All (x : StR) (p : Nat → Prop) : Prop where
 a : ∀ b o, x.Q.A = some ⟨b, o, none⟩ → p b
 b : ∀ b o, x.Q.B = some ⟨b, o, none⟩ → p b
 c : ∀ b o, x.Q.C = some ⟨b, o, none⟩ → p b
 h : ∀ b o, x.H = some ⟨b, o, none⟩ → p b
 t : ∀ b o, x.T = some ⟨b, o, none⟩ → p b
theorem StR.All.mono {x : StR} {p q : Nat → Prop} (h : x.All p) (hp : ∀ b, p b → q b) : x.All q :=
 ⟨fun b o e => hp b (h.a b o e), fun b o e => hp b (h.b b o e), fun b o e => hp b (h.c b o e), fun b o e => hp b (h.h b o e), fun b o e => hp b (h.t b o e)⟩
theorem IsS.mv {n0 : Nat} {Z : List Nat} {W W' : World} {x : StR} {D : StD} (h : IsS W x D) (hm : Mv n0 Z W W') (hz : x.All (fun b => b ∉ Z)) : IsS W' x D :=
 ⟨⟨h.cur.coils.mv (fun _ => Nat.one_pos) hm hz.a, h.cur.shells.mv (fun _ => Nat.one_pos) hm hz.b, h.cur.plasma.mv (fun _ => Nat.one_pos) hm hz.c, h.cur.la, h.cur.lb, h.cur.lc, h.cur.ca, h.cur.cb, h.cur.cc, h.cur.ka, h.cur.kb, h.cur.kc⟩, h.heat.mv (fun _ => Nat.one_pos) hm hz.h, h.trip.mv (fun _ => Nat.one_pos) hm hz.t, h.lh, h.lt, h.ch, h.ct, h.kh, h.kt⟩
theorem IsS.chg {X : List Nat} {W W' : World} {x : StR} {D : StD} (h : IsS W x D) (hm : Chg X W W') (hz : x.All (fun b => b ∉ X)) : IsS W' x D := h.mv (Mv.of_chg (n0 := 0) hm) hz
theorem gA_block {o : Gr} {b off : Nat} (h : gA o = some ⟨b, off, none⟩) (cs : List Value) : ∃ sp, (b, Cont.cells (cs ++ sp)) ∈ gt o cs := by
 rcases o with _ | ⟨b', c, sp⟩
 ·cases h
 ·cases h; exact ⟨sp, by simp [gt]⟩
theorem Sta.fiveAll {E : Cfg} {U : Snaps} {L L1 : Boxes} {w : World} {o1 o2 o3 o4 o5 : Gr} {c1 c2 c3 c4 c5 : List Value} {n1 n2 n3 n4 n5 : Nat} (hs : Sta E U L w) (hT : Tl L1 (fiveT o1 o2 o3 o4 o5 c1 c2 c3 c4 c5) L) : (fiveR o1 o2 o3 o4 o5 n1 n2 n3 n4 n5).All (fun b => (E.w.heap.size ≤ b ∨ b ∈ E.lent) ∧ b < w.heap.size ∧ ∀ x ∈ L1, x.1 ≠ b) := by
 have key : ∀ b cs, (b, cs) ∈ fiveT o1 o2 o3 o4 o5 c1 c2 c3 c4 c5 → (E.w.heap.size ≤ b ∨ b ∈ E.lent) ∧ b < w.heap.size ∧ ∀ x ∈ L1, x.1 ≠ b := fun b cs hm => by
  have hL := hT.eq
  obtain ⟨i, hi⟩ := List.getElem?_of_mem hm
  have hi' : L[L1.length + i]? = some (b, cs) := by rw [hL, List.getElem?_append_right om9, Nat.add_sub_cancel_left]; exact hi
  obtain ⟨h1, h2⟩ := hs.box _ _ _ hi'
  refine ⟨h1, h2.lt, fun x hx e => ?_⟩
  obtain ⟨j, hj⟩ := List.getElem?_of_mem hx
  have hjl := (List.getElem?_eq_some_iff.1 hj).1
  have hj' : L[j]? = some (b, x.2) := by rw [hL, List.getElem?_append_left hjl, hj, ← e]
  have := hs.apart _ _ _ _ _ hi' hj'
  omega
 refine ⟨fun b o e => ?_, fun b o e => ?_, fun b o e => ?_, fun b o e => ?_, fun b o e => ?_⟩
 ·obtain ⟨sp, hm⟩ := gA_block e c1; exact key b (.cells (c1 ++ sp)) (by simp [fiveT, hm])
 ·obtain ⟨sp, hm⟩ := gA_block e c2; exact key b (.cells (c2 ++ sp)) (by simp [fiveT, hm])
 ·obtain ⟨sp, hm⟩ := gA_block e c3; exact key b (.cells (c3 ++ sp)) (by simp [fiveT, hm])
 ·obtain ⟨sp, hm⟩ := gA_block e c4; exact key b (.cells (c4 ++ sp)) (by simp [fiveT, hm])
 ·obtain ⟨sp, hm⟩ := gA_block e c5; exact key b (.cells (c5 ++ sp)) (by simp [fiveT, hm])
structure KP (X : List Nat) (w W : World) : Prop where
 size : w.heap.size ≤ W.heap.size
 block : ∀ b, b < w.heap.size → b ∉ X → W.heap[b]? = w.heap[b]?
theorem KP.refl (X : List Nat) (w : World) : KP X w w := ⟨Nat.le_refl _, fun _ _ _ => rfl⟩
theorem KP.chg {X Y : List Nat} {w W W' : World} (h : KP X w W) (hc : Chg Y W W') (hY : ∀ y ∈ Y, y ∈ X ∨ w.heap.size ≤ y) : KP X w W' :=
 ⟨Nat.le_trans h.size hc.size, fun b hb hx => (hc.block b (Nat.lt_of_lt_of_le hb h.size) (fun hy => by rcases hY b hy with h1 | h1; exact hx h1; omega)).trans (h.block b hb hx)⟩
theorem KP.mv {X Y : List Nat} {w W W' : World} {n0 : Nat} (h : KP X w W) (hc : Mv n0 Y W W') (hn : w.heap.size ≤ n0) (hY : ∀ y ∈ Y, w.heap.size ≤ y) : KP X w W' :=
 ⟨Nat.le_trans h.size hc.size, fun b hb hx => (hc.block b (Nat.lt_of_lt_of_le hb h.size) (fun hy => by have := hY b hy; omega) (Or.inl om9)).trans (h.block b hb hx)⟩
abbrev stC (R : StR) (n : Int) : List Value := [.int .i64 n, .slice R.Q.A R.Q.la R.Q.ca, .slice R.Q.B R.Q.lb R.Q.cb, .slice R.Q.C R.Q.lc R.Q.cc, .slice R.H R.lh R.ch, .slice R.T R.lt R.ct]
abbrev circC (R : MachR) (M : MachD) (A : Option Addr) (c : Nat) : List Value := [.string M.name, .slice R.A R.la R.ca, .slice R.B R.lb R.cb, .slice R.C R.lc R.cc, .int .i64 M.grid.r, .int .i64 M.grid.z, .int .i64 M.grid.nr, .int .i64 M.grid.nz, .int .i64 M.grid.step, .slice R.D R.ld R.cd, .slice A R.lb c]
structure FcS (R : MachR) (M : MachD) (Lk : Option Addr) (cl : Nat) (rows : List (Option Addr × Nat)) (RS : StR) (S : StD) (bs bd bc bv N dc : Nat) (DL : Option Addr) (dr : List DrvR) (ds : Nat → List Int × List Int) (W : World) : Prop where
 m : IsM W R M
 k : IsK M W Lk R.lb rows
 s : IsS W RS S
 bs : ∀ (j : Nat) (v : Value), (stC RS S.tick)[j]? = some v → W.cell? ⟨bs, 0 + j, none⟩ = some v
 bc : ∀ (j : Nat) (v : Value), (circC R M Lk cl)[j]? = some v → W.cell? ⟨bc, 0 + j, none⟩ = some v
 bd : W.cell? ⟨bd, 0, none⟩ = some (.func (.func 92) #[] #[.pointer (some ⟨bv, 0, none⟩)])
 bv : W.cell? ⟨bv, 0, none⟩ = some (.slice DL N dc)
 dl : IsT 2 DrvR.cells W DL N dr
 dm : ∀ (k : Nat) (r : DrvR), dr[k]? = some r → IsT 1 intCells W r.A1 r.l1 (ds k).1 ∧ IsT 1 intCells W r.A2 r.l2 (ds k).2
theorem BoxAt.blk {w w' : World} {b : Nat} {c : Cont} (h : BoxAt w b c) (hb : w'.heap[b]? = w.heap[b]?) (hz : w.heap.size ≤ w'.heap.size) : BoxAt w' b c := h.same hb hz
theorem BoxAt.isCells {w : World} {b : Nat} {v : Value} {cs : List Value} (h : BoxAt w b (.cells (v :: cs))) : ∃ o : Obj, w.heap[b]? = some o ∧ o.isCells = true := cells_of_cell (h.cell _ rfl 0 _ rfl).1
theorem cell_blk {w w' : World} {b k : Nat} (hb : w'.heap[b]? = w.heap[b]?) : w'.cell? ⟨b, k, none⟩ = w.cell? ⟨b, k, none⟩ := World.cell?_of_block (w := w) (w' := w') (a := ⟨b, k, none⟩) hb
structure FitD (M : MachD) (d : List Int × List Int) : Prop where
 ch : validCh M d.1 1000000000000000 = true
 pl : FitP M d.2
def stepsD (M : MachD) (S : StD) (ds : Nat → List Int × List Int) : Nat → StD
 | 0 => S
 | k + 1 => stepD M (stepsD M S ds k) (ds k).1 (ds k).2
def GoodS (sts : Nat → StD) (B : Nat) (Z : List Nat) (k : Nat) (x : StR × Int) (W : World) : Prop := x.2 = (sts k).tick ∧ IsS W x.1 (sts k) ∧ x.1.All (fun b => b ∉ Z ∧ B ≤ b)
def StR.lens (x RS : StR) : Prop := x.Q.la = RS.Q.la ∧ x.Q.lb = RS.Q.lb ∧ x.Q.lc = RS.Q.lc ∧ x.lh = RS.lh ∧ x.lt = RS.lt
set_option maxRecDepth 100000 in
set_option maxHeartbeats 1000000 in
theorem states1_any (R : MachR) (M : MachD) (Lk : Option Addr) (cl : Nat) (rows : List (Option Addr × Nat)) (RS : StR) (sts : Nat → StD) (bs bd bc bv N dc : Nat) (DL : Option Addr) (dr : List DrvR) (ds : Nat → List Int × List Int) (X : List Nat) (w : World) (hN : N ≤ 1000000)
  (hFc : ∀ W, KP X w W → FcS R M Lk cl rows RS (sts 0) bs bd bc bv N dc DL dr ds W) (hst : ∀ k, k < N → sts (k + 1) = stepD M (sts k) (ds k).1 (ds k).2) (hFit : ∀ k, k ≤ N → FitS M (sts k)) (hdf : ∀ k, k < N → FitD M (ds k))
  (lbs : bs < w.heap.size) (lbd : bd < w.heap.size) (lbc : bc < w.heap.size) (lbv : bv < w.heap.size) (hbvX : bv ∉ X) (hdlX : ∀ b o, DL = some ⟨b, o, none⟩ → b ∉ X ∧ b < w.heap.size) (hX0 : ∀ x ∈ X, x < w.heap.size) :
  IterAll Tryz.prog 97 #[.pointer (some ⟨bs, 0, none⟩), .pointer (some ⟨bd, 0, none⟩), .pointer (some ⟨bc, 0, none⟩)] (fun x : StR × Int => x.1.v x.2) (GoodS sts w.heap.size) X 1 (N + 1) w := by
 intro l J W hw hl hl2 hJ hY h0
 have hF0 := hFc W ((KP.refl X w).chg (Chg.of_below [] hw) (fun y hy => by cases hy))
 have hw0 := hw.size
 have lbsW : bs < W.heap.size := by omega
 have lbdW : bd < W.heap.size := by omega
 have lbcW : bc < W.heap.size := by omega
 have hF00 := hFit 0 om9
 have hc := hF00.cur.check
 have n3 := cellN_bd hc
 have n4 := (sound_of hc).coils.1
 have n5 := (sound_of hc).shells.1
 have f8 : (cellN M : Int) = M.grid.nr * M.grid.nz := by have := cells_fine (sound_of hc).grid; unfold cellN; omega
 have m1 := hF0.s.cur.coils.1
 have m2 := hF0.s.cur.shells.1
 have m3 := hF0.s.cur.plasma.1
 have m4 := hF0.s.heat.1
 have m5 := hF0.s.trip.1
 have f1 := hF00.cur.coils.1
 have f2 := hF00.cur.shells.1
 have f3 := hF00.cur.plasma.1
 have f4 := hF00.heat.1
 have f5 := hF00.trip
 refine callsIn_axM (vs := [.func (.yield l) #[] #[], .pointer (some ⟨bs, 0, none⟩), .pointer (some ⟨bd, 0, none⟩), .pointer (some ⟨bc, 0, none⟩)]) Tryz.func97 rfl rfl ?_
 refine ci_seq ?_
 refine ci_region (Or.inl rfl) (fun ⟨a, w, h⟩ => h) rfl ?_
 refine al_nb (r_box rfl rfl) ?_
 intro b1
 refine al_end (aq_then ?_)
 refine ci_seq ?_
 refine ci_region (Or.inl rfl) (fun ⟨a, w, h⟩ => h) rfl ?_
 refine al_p (q_loadXs (stC RS (sts 0).tick) rfl Tryz.isAgg35 Tryz.sizeOf35 (fun w9 hs j9 v9 h9 => by rw [addr_add]; exact (hs.below.cell (p := ⟨_, _, none⟩) lbsW).trans (hF0.bs j9 v9 h9)) rfl) (al_callS Tryz.call98 (.cons rfl .nil) rfl rfl (fun w1 hs1 => ?_))
 refine (cloneL_any RS (sts 0) _ (hF0.s.below hs1.below) om9 om9 om9 om9 om9).mono ?_
 rintro e u1 ⟨o_1, o_2, o_3, o_4, o_5, rfl, G9, hb_1⟩
 refine ⟨_, _, _, rfl, hs1.giftF (.s (.z)) hb_1 (.s (.z)), ?_⟩
 refine al_nb (r_alloc Tryz.zeroValue35 rfl) ?_
 intro b2
 refine al_storeAll (i := 0) rfl rfl rfl rfl Tryz.sizeOf35 rfl rfl .k0 rfl (al_end (aq_then ?_))
 refine ci_seq ?_
 refine ci_seq ?_
 refine ci_regionY ?_
 refine li_q (Or.inl rfl) rfl (q_load (i := 1) rfl rfl rfl Tryz.isAgg169) rfl rfl rfl ?_
 refine li_q (Or.inl rfl) rfl (q_loadAll (i := 0) rfl rfl Tryz.isAgg35 Tryz.sizeOf35 rfl) rfl rfl rfl ?_
 refine li_yield (Or.inl rfl) rfl (.cons rfl .nil) rfl rfl (fun w9 hs9 => ?_)
 have hJ9 : J [b2] 0 w9 := hJ _ _ _ _ (h0 [b2] rfl (fun z hz => by obtain rfl := List.mem_singleton.1 hz; exact (hs9.box 0 _ _ rfl).1.resolve_right (by simp))) (Mv.of_chg (Chg.of_below _ hs9.below))
 have hb2 : W.heap.size ≤ b2 := (hs9.box 0 _ _ rfl).1.resolve_right (by simp)
 have hne : b1 ≠ b2 := fun e => by
  have := hs9.apart 0 1 b2 _ _ rfl (by rw [← e]; rfl)
  omega
 have hb1 : W.heap.size ≤ b1 := (hs9.box 1 _ _ rfl).1.resolve_right (by simp)
 have h9 := hs9
 simp only [List.append_nil] at h9
 have hS9 : IsS w9 (fiveR o_1 o_2 o_3 o_4 o_5 RS.Q.la RS.Q.lb RS.Q.lc RS.lh RS.lt) (sts 0) := isS_five (x := ⟨b2, o_1, o_2, o_3, o_4, o_5⟩) h9 (.s (.s .z)) (G9 _) hF0.s.cur.coils.1 hF0.s.cur.shells.1 hF0.s.cur.plasma.1 hF0.s.heat.1 hF0.s.trip.1 om9 om9 om9 om9 om9
 have hA9 : StR.All (fiveR o_1 o_2 o_3 o_4 o_5 RS.Q.la RS.Q.lb RS.Q.lc RS.lh RS.lt) (fun b => b ∉ [b2] ∧ W.heap.size ≤ b) := (h9.fiveAll (L1 := [_, _]) (.s (.s .z))).mono (fun b ⟨q1, q2, q3⟩ => ⟨fun hm => q3 _ (List.Mem.head _) (List.mem_singleton.1 hm).symm, q1.resolve_right (by simp)⟩)
 refine (hY [b2] 0 ((fiveR o_1 o_2 o_3 o_4 o_5 RS.Q.la RS.Q.lb RS.Q.lc RS.lh RS.lt), (sts 0).tick) w9 om9 hJ9 ⟨rfl, hS9, hA9.mono (fun b hb => ⟨hb.1, Nat.le_trans hw.size hb.2⟩)⟩).mono ?_
 rintro e u9 ⟨rfl, hJu, hCu⟩
 have hX9 : ∀ b, W.heap.size ≤ b → b ∉ l :: X := fun b hb hm => by
  rcases List.mem_cons.1 hm with h | h
  ·omega
  ·have := hX0 _ h; have := hw.size; omega
 have hB2 : BoxAt u9 b2 (.cells (stC (fiveR o_1 o_2 o_3 o_4 o_5 RS.Q.la RS.Q.lb RS.Q.lc RS.lh RS.lt) (sts 0).tick)) := (hs9.at 0 rfl).blk (hCu.block _ (hs9.at 0 rfl).lt (hX9 _ hb2)) hCu.size
 have hB1 : BoxAt u9 b1 (.cells [.func (.yield l) #[] #[]]) := (hs9.at 1 rfl).blk (hCu.block _ (hs9.at 1 rfl).lt (hX9 _ hb1)) hCu.size
 have hSu : IsS u9 (fiveR o_1 o_2 o_3 o_4 o_5 RS.Q.la RS.Q.lb RS.Q.lc RS.lh RS.lt) (sts 0) := hS9.chg hCu (hA9.mono (fun b hb => hX9 b hb.2))
 have hKu : KP X w u9 := ((KP.refl X w).chg (Chg.of_below [] (hw.trans (hs9.below.mono hw.size))) (fun y hy => by cases hy)).chg hCu (fun y hy => by
  rcases List.mem_cons.1 hy with h | h
  ·exact Or.inr om9
  ·exact Or.inl h)
 have hFu := hFc _ hKu
 have hbdu : bd < u9.heap.size := Nat.lt_of_lt_of_le lbd hKu.size
 refine ⟨_, rfl, ?_⟩
 refine li_q (Or.inl rfl) rfl (q_not rfl) rfl rfl rfl ?_
 refine li_end ?_
 refine aq_then (ci_condF rfl ?_)
 refine ci_skip ?_
 refine aq_then (ci_seq ?_)
 refine ci_region (Or.inl rfl) (fun ⟨a, w, h⟩ => h) rfl ?_
 refine al_p (q_loadX rfl Tryz.isAgg100 (fun w9 hs => (hs.below.cell (p := ⟨_, _, none⟩) hbdu).trans ((one_fact hFu.bd) 0 _ rfl))) (al_end (aq_then ?_))
 refine ci_block ?_
 refine fun a9 v hf9 hs9v => ?_
 have hv := hs9v.below
 have sv := hv.size
 have lb2v : b2 < v.heap.size := Nat.lt_of_lt_of_le hB2.lt sv
 have lb1v : b1 < v.heap.size := Nat.lt_of_lt_of_le hB1.lt sv
 have hKv : KP X w v := hKu.chg (Chg.of_below [] hv) (fun y hy => by cases hy)
 have hFv := hFc _ hKv
 have hs0 := hCu.size
 have sW := hs9.below.size
 refine wpIn_range_all (X := b2 :: l :: X) (zl := 0) (N := N) (Good := fun _ k x _ => dr[k]? = some x) (enc := DrvR.v) (hf9.ev rfl) Tryz.call92 (values1_any bv N dc DL dr (b2 :: l :: X) v hFv.bv (by have := hKv.size; omega) hFv.dl hN ?_ ?_) (fun Z k V => Z = [] ∧ ∃ x : StR, BoxAt V b2 (.cells (stC x (sts k).tick)) ∧ IsS V x (sts k) ∧ x.All (fun b => b ∉ [b2] ∧ w.heap.size ≤ b) ∧ x.lens RS ∧ J [b2] (k + 1) V ∧ KP X w V ∧ V.cell? ⟨b1, 0, none⟩ = some (.func (.yield l) #[] #[])) ?_ ?_ ?_ ?_ ?_
 ·intro hm
  rcases List.mem_cons.1 hm with h | h
  ·omega
  ·rcases List.mem_cons.1 h with h | h
   ·omega
   ·exact hbvX h
 ·intro b o e hm
  rcases List.mem_cons.1 hm with h | h
  ·have := (hdlX b o e).2; omega
  ·rcases List.mem_cons.1 h with h | h
   ·have := (hdlX b o e).2; omega
   ·exact (hdlX b o e).1 h
 ·rintro Z k W1 W2 ⟨rfl, x, q1, q2, q3, q4, q5, q6, q7⟩ hm
  exact ⟨rfl, x, q1.blk (hm.block _ q1.lt (by simp) (Or.inl lb2v)) hm.size, q2.mv hm (q3.mono (fun b hb => by simp)), q3, q4, hJ _ _ _ _ q5 ((hm.low om9).wider (fun z hz => by cases hz)), q6.mv hm om9 (fun y hy => by cases hy), (cell_blk (hm.block b1 (by have := cells_of_cell q7; obtain ⟨o, ho, _⟩ := this; exact (Array.getElem?_eq_some_iff.1 ho).1) (by simp) (Or.inl lb1v))).trans q7⟩
 ·intro Z hZ _
  obtain rfl := List.length_eq_zero_iff.1 hZ
  exact ⟨rfl, (fiveR o_1 o_2 o_3 o_4 o_5 RS.Q.la RS.Q.lb RS.Q.lc RS.lh RS.lt), hB2.blk (hv.block _ hB2.lt) sv, hSu.below hv, hA9.mono (fun b hb => ⟨hb.1, by have := hw.size; omega⟩), ⟨rfl, rfl, rfl, rfl, rfl⟩, hJ _ _ _ _ hJu (Mv.of_chg (Chg.of_below _ hv)), hKv, (cell_blk (hv.block _ hB1.lt)).trans (hB1.cell _ rfl 0 _ rfl).1⟩
 ·rintro l2 Z k x V hl2 sV ⟨rfl, xk, hBk, hSk, hAk, hlk, hJk, hKk, hyk⟩ hdx hk
  have hW2 : Wide (Fence.wide.inRound l2) := Or.inr ⟨l2, rfl⟩
  obtain ⟨k1, k2, k3, k4, k5⟩ := hlk
  have hlk : xk.lens RS := ⟨k1, k2, k3, k4, k5⟩
  refine ci_go (hf9.setp (w1 := V) (bs' := []) (p := 14) rfl x.v) (Sta.start _ _ _) ?_
  refine ci_region hW2 (fun ⟨a, w, h⟩ => h) rfl ?_
  refine al_nb (r_alloc Tryz.zeroValue79 rfl) ?_
  intro b3
  refine al_storeAll (i := 0) rfl rfl rfl rfl Tryz.sizeOf79 rfl rfl .k0 rfl (al_end (fun a1 W1 hf1 hs1 => ⟨Chg.of_below _ hs1.below, fun W2 hm2 => ?_⟩))
  have hmm : Mv v.heap.size [] V W2 := (Mv.of_chg (Chg.of_below _ hs1.below)).trans hm2
  have s12 : V.heap.size ≤ W2.heap.size := hmm.size
  have e2 := hmm.block b2 hBk.lt (by simp) (Or.inl lb2v)
  have hB2w : BoxAt W2 b2 (.cells (stC xk (sts k).tick)) := hBk.blk e2 hmm.size
  have hS2 : IsS W2 xk (sts k) := hSk.mv hmm (hAk.mono (fun b hb => by simp))
  have hJ2 : J [b2] (k + 1) W2 := hJ _ _ _ _ hJk ((hmm.low om9).wider (fun z hz => by cases hz))
  have hK2 : KP X w W2 := hKk.mv hmm om9 (fun y hy => by cases hy)
  have hF2 := hFc _ hK2
  have lb1 : b1 < W2.heap.size := by omega
  have hy2 : W2.cell? ⟨b1, 0, none⟩ = some (.func (.yield l) #[] #[]) := (cell_blk (hmm.block b1 om9 (by simp) (Or.inl om9))).trans hyk
  have hdxc : ∀ (j : Nat) (u : Value), (DrvR.cells x)[j]? = some u → W2.cell? ⟨b3, 0 + j, none⟩ = some u := fun j u hu => by
   have h6 := hs1.at 0 rfl
   rw [Nat.zero_add]
   exact (cell_blk (hm2.block b3 h6.lt (by simp) (Or.inr h6.isCells))).trans ((h6.cell _ rfl j u hu).1)
  have lb3 : b3 < W2.heap.size := Nat.lt_of_lt_of_le (hs1.at 0 rfl).lt hm2.size
  have lbc2 : bc < W2.heap.size := by have := hK2.size; omega
  have hn1 : bc ≠ b2 := by omega
  have hn3 : b3 ≠ b2 := by have : V.heap.size ≤ b3 := (hs1.box 0 _ _ rfl).1.resolve_right (by simp); omega
  refine ci_go (hf1.rebase (w1 := W2) (bs' := [b2])) (Sta.lend _ _ _ b2 _ hB2w) ?_
  refine ci_block ?_
  refine ci_seq ?_
  refine ci_region hW2 (fun ⟨a, w, h⟩ => by cases (And.left (a := Exit.outgrown = Exit.normal) h)) rfl ?_
  refine al_p (q_loadXs (circC R M Lk cl) rfl Tryz.isAgg108 Tryz.sizeOf108 (fun w9 hs j9 v9 h9 => by rw [addr_add]; exact (hs.cellL lbc2 (fun hm => hn1 (List.mem_singleton.1 hm))).trans (hF2.bc j9 v9 h9)) rfl) (al_p (q_loadAll (i := 0) rfl rfl Tryz.isAgg35 Tryz.sizeOf35 rfl) (al_p (q_loadXs (DrvR.cells x) rfl Tryz.isAgg79 Tryz.sizeOf79 (fun w9 hs j9 v9 h9 => by rw [addr_add]; exact (hs.cellL lb3 (fun hm => hn3 (List.mem_singleton.1 hm))).trans (hdxc j9 v9 h9)) rfl) (al_callS Tryz.call99 (.cons rfl (.cons rfl (.cons rfl .nil))) rfl rfl (fun w2 hs2 => ?_))))
  have hKP := hK2.chg hs2.chg (fun y hy => Or.inr (by obtain rfl := List.mem_singleton.1 hy; omega))
  have hFc2 := hFc _ hKP
  have hdm := hFc2.dm k x hdx
  refine (after_any R M Lk cl rows xk (sts k) x.A1 x.A2 x.l1 x.c1 x.l2 x.c2 (ds k).1 (ds k).2 _ hFc2.m hFc2.k (hS2.chg hs2.chg (hAk.mono (fun b hb => hb.1))) (hFit k om9) hdm.1 (hdf k hk).ch hdm.2 (hdf k hk).pl).mono ?_
  rintro e u2 ⟨xn, rfl, G9, hb_2⟩
  refine ⟨_, _, _, rfl, hs2.giftF (.s (.z)) hb_2 (.s (.z)), ?_⟩
  refine al_storeAll (i := 0) rfl rfl rfl rfl Tryz.sizeOf35 rfl rfl .k0 rfl (al_end (aq_then ?_))
  refine ci_seq ?_
  refine ci_regionY ?_
  refine li_q hW2 rfl (q_loadX rfl Tryz.isAgg169 (fun w9 hs => (hs.cellL lb1 (fun hm => hne (List.mem_singleton.1 hm))).trans ((one_fact hy2) 0 _ rfl))) rfl rfl rfl ?_
  refine li_q hW2 rfl (q_loadAll (i := 0) rfl rfl Tryz.isAgg35 Tryz.sizeOf35 rfl) rfl rfl rfl ?_
  refine li_yield hW2 rfl (.cons rfl .nil) rfl rfl (fun w9 hs9 => ?_)
  have hJ9 : J [b2] (k + 1) w9 := hJ _ _ _ _ hJ2 (Mv.of_chg hs9.chg)
  have h9 := hs9
  simp only [List.append_nil] at h9
  have hx : sts (k + 1) = stepD M (sts k) (ds k).1 (ds k).2 := hst k hk
  have g9 : AfF xk (sts (k + 1)) xn := ⟨G9.g1.len2 (by simp only [lst_length]), G9.g2.len2 (by simp only [lst_length]), G9.g3.len2 (by simp only [lst_length]), G9.g4.len2 (by simp only [lst_length]), G9.g5.len2 (by simp only [lst_length])⟩
  have z1 : lst xk.Q.la (fun j => Value.int .i64 (coilN M (sts k) (ds k).1 j)) = lst xk.Q.la (intsF (sts (k + 1)).C.coils) := lst_ext fun j hj => by rw [hx]; simp only [intsF, stepD]; rw [iA_lst _ om9]
  have z2 : lst xk.Q.lb (fun j => Value.int .i64 (shellN M (sts k) (ds k).1 (ds k).2 j)) = lst xk.Q.lb (intsF (sts (k + 1)).C.shells) := lst_ext fun j hj => by rw [hx]; simp only [intsF, stepD]; rw [iA_lst _ om9]
  have z3 : lst xk.Q.lc (intsF (ds k).2) = lst xk.Q.lc (intsF (sts (k + 1)).C.plasma) := by rw [hx]; rfl
  have z4 : lst xk.lh (fun j => Value.int .i64 (heatN M (sts k) (ds k).1 j)) = lst xk.lh (intsF (sts (k + 1)).heat) := lst_ext fun j hj => by rw [hx]; simp only [intsF, stepD]; rw [iA_lst _ om9]
  have z5 : lst xk.lt (fun j => Value.bool (tripN M (sts k) (ds k).1 j)) = lst xk.lt (boolsF (sts (k + 1)).trip) := lst_ext fun j hj => by rw [hx]; simp only [boolsF, stepD]; rw [bA_lst _ om9]
  rw [z1, z2, z3, z4, z5] at h9
  have hFk1 := hFit (k + 1) om9
  have hS9 : IsS w9 (fiveR xn.o1 xn.o2 xn.o3 xn.o4 xn.o5 xk.Q.la xk.Q.lb xk.Q.lc xk.lh xk.lt) (sts (k + 1)) := isS_five h9 (.s .z) g9 (by have := hFk1.cur.coils.1; omega) (by have := hFk1.cur.shells.1; omega) (by have := hFk1.cur.plasma.1; omega) (by have := hFk1.heat.1; omega) (by have := hFk1.trip; omega) om9 om9 om9 om9 om9
  have hA9 : StR.All (fiveR xn.o1 xn.o2 xn.o3 xn.o4 xn.o5 xk.Q.la xk.Q.lb xk.Q.lc xk.lh xk.lt) (fun b => b ∉ [b2] ∧ W2.heap.size ≤ b) := (h9.fiveAll (L1 := [_]) (.s .z)).mono (fun b ⟨q1, q2, q3⟩ => by
   have hn : b ∉ [b2] := fun hm => q3 _ (List.Mem.head _) (List.mem_singleton.1 hm).symm
   exact ⟨hn, q1.resolve_right hn⟩)
  have hyy := hY [b2] (k + 1) (fiveR xn.o1 xn.o2 xn.o3 xn.o4 xn.o5 xk.Q.la xk.Q.lb xk.Q.lc xk.lh xk.lt, (sts (k + 1)).tick) w9 om9 hJ9 ⟨rfl, hS9, hA9.mono (fun b hb => ⟨hb.1, by omega⟩)⟩
  have ht : (sts (k + 1)).tick = (sts k).tick + 1 := by rw [hx]; rfl
  dsimp only at hyy
  rw [ht] at hyy
  refine hyy.mono ?_
  rintro e u8 ⟨rfl, hJu8, hCu8⟩
  refine ⟨_, rfl, ?_⟩
  refine li_q hW2 rfl (q_not rfl) rfl rfl rfl ?_
  refine li_end ?_
  refine aq_then (ci_condF rfl ?_)
  refine ci_skip ?_
  refine aq_inN ?_
  refine fun a3 W3 hf3 hs3 => ⟨rfl, ⟨rfl, fiveR xn.o1 xn.o2 xn.o3 xn.o4 xn.o5 xk.Q.la xk.Q.lb xk.Q.lc xk.lh xk.lt, ?_, ?_, hA9.mono (fun b hb => ⟨hb.1, by omega⟩), hlk, ?_, ?_, ?_⟩, ?_⟩
  ·have e1 := hCu8.block b2 (h9.at 0 rfl).lt (hX9 _ hb2)
   have h1 := (h9.at 0 rfl).blk e1 hCu8.size
   rw [ht]
   exact h1.blk (hs3.below.block _ h1.lt) hs3.below.size
  ·exact (hS9.chg hCu8 (hA9.mono (fun b hb => hX9 b om9))).below hs3.below
  ·exact hJ _ _ _ _ hJu8 (Mv.of_chg (Chg.of_below _ hs3.below))
  ·refine ((hK2.chg hs9.chg (fun y hy => Or.inr (by obtain rfl := List.mem_singleton.1 hy; omega))).chg hCu8 (fun y hy => ?_)).chg (Chg.of_below [] hs3.below) (fun y hy => by cases hy)
   rcases List.mem_cons.1 hy with h | h
   ·exact Or.inr om9
   ·exact Or.inl h
  ·have e0 := hs9.chg.block b1 lb1 (fun hm => hne (List.mem_singleton.1 hm))
   have e1 := hCu8.block b1 (Nat.lt_of_lt_of_le lb1 hs9.chg.size) (hX9 _ hb1)
   have e2 := hs3.below.block b1 (Nat.lt_of_lt_of_le lb1 (Nat.le_trans hs9.chg.size hCu8.size))
   exact (cell_blk e2).trans ((cell_blk e1).trans ((cell_blk e0).trans hy2))
  ·exact ((hs9.chg.mono (fun y hy => by obtain rfl := List.mem_singleton.1 hy; simp)).trans (hCu8.mono (fun y hy => List.mem_cons_of_mem _ hy))).trans (Chg.of_below _ hs3.below)
 ·intro y hy
  rcases List.mem_cons.1 hy with h | h
  ·omega
  ·rcases List.mem_cons.1 h with h | h
   ·have := hw.size; omega
   ·have := hX0 _ h; have := hw.size; omega
 ·rintro D Z Wd hD ⟨rfl, x, q1, q2, q3, q4, q5, q6, q7⟩ hDd
  refine marks_end (D := D) (by rw [hf9.defers]) hDd (fun w' => results_none rfl _ _ _) (fun w' hm _ => ⟨⟨_, rfl⟩, [b2], hJ _ _ _ _ q5 ((hm.low om9).wider (fun z hz => by cases hz))⟩)
end
section
set_option autoImplicit false
open Go.RowKit
section
variable {P : Program} {e0 : Cfg} {U : Snaps} {l : Slots} {L : Boxes} {ops : Array Oper} {Q : Exit → Act → World → Prop} {rest : List Oper} {d : Nat} {v : Value}
variable {ty : TypeId} {pos : String} {af : Array Edge} {g : Option (Nat × Bool)} {dd : Option Nat}
theorem q_convI {s t : TypeId} {k1 k2 k3 : IntKind} {x : Int} {ox : Operand} (hx : E l ox = some (.int k1 x)) (hs : P.underlying s = some (.int k3)) (ht : P.underlying t = some (.int k2)) (hw : k2.wrap x = x) : Q1 P e0 U l L ⟨dd, .convert s t ox, ty, pos, af, g⟩ (.int k2 x) := by
 intro a w hf hs'
 simp [execOp, hf.ev hx, convert, run_underlying hs, run_underlying ht, Conv.intToInt, hw]
theorem al_copyB {dT sT e z b od dl dc m sl sc i : Nat} {cs cs' vs : List Value} {A : Addr} {L' : Boxes} {ox oy : Operand} (hx : E l ox = some (.slice (some ⟨b, od, none⟩) dl dc)) (hy : E l oy = some (.slice (some A) sl sc)) (hi : L[i]? = some (b, .cells cs)) (hm : Nat.min sl dl = m) (hv : vs.length = m * z) (hl : od + m * z ≤ cs.length)
  (hone : ∀ v ∈ vs, v.oneCell' = true) (hsrc : ∀ w, Sta e0 U L w → ∀ j v, vs[j]? = some v → w.cell? (A.add j) = some v) (hu : P.underlying dT = some (.slice e)) (hs1 : (P.info? e).map (·.size) = some z) (hcs : cs' = cs.take od ++ vs ++ cs.drop (od + vs.length)) (hL : SetAt i (b, .cells cs') L L') (hn : Nat.blt d e0.n = true) (hw : want ops l g = some true)
  (k : AL P ops Q e0 U ((d, .int .i64 (m : Int)) :: l) L' rest) : AL P ops Q e0 U l L (⟨some d, .call ⟨.builtin .copy, #[ox, oy], #[dT, sT]⟩, ty, pos, af, g⟩ :: rest) :=
 al_run2 (K := True) hw rfl hn (fun a' w hf hs => by
  have hl2 := run_loadCells_list (P := P) w A vs (hsrc w hs)
  obtain ⟨w', hr, hst⟩ := run_storeCells P e0 U i b vs L cs od 0 w hs hi om9 hone
  refine ⟨_, w', U, L', ?_, ?_, k⟩
  ·cases hq : P.info? e with
   | none => simp [hq] at hs1
   | some i =>
    have hi : i.size = z := by simpa [hq] using hs1
    have hc : (Builtin.copy_ #[dT, sT] ty #[.slice (some ⟨b, od, none⟩) dl dc, .slice (some A) sl sc]).run P w = .ok (goInt m) w' := by
     have hr' : (storeCells ⟨b, od, none⟩ vs).run P w = .ok () w' := by simpa [storeCells] using hr
     rw [hv] at hl2
     simp [Builtin.copy_, run_underlying hu, Builtin.lenOf, Builtin.firstCells, sizeOf, typeInfo, hq, hi, hm, hl2, hr']
    have ex : a'.eval ox = _ := hf.ev hx
    have ey : a'.eval oy = _ := hf.ev hy
    simp only [execOp, resolve, invoke, builtin, Sem.run_bind, Sem.run_pure, Result.andThen_ok, List.map_toArray, List.map_cons, List.map_nil, ex, ey, hc]
    rfl
  ·rw [hL.eq, hcs]; simpa using hst)
end
theorem Sta.callC {E : Cfg} {U : Snaps} {L L' : Boxes} {w w' : World} {i b : Nat} {cs cs' : Cont} (h : Sta E U L w) (hi : L[i]? = some (b, cs)) (hc : Chg [b] w w') (hbox : BoxAt w' b cs') (hL : SetAt i (b, cs') L L') : Sta E ((w.heap.size, w') :: U) L' w' := by
 have h' := h.change hi hc hbox
 rw [← hL.eq] at h'
 refine ⟨h'.chg, h'.box, h'.apart, fun lo u hu => ?_⟩
 cases hu with
 | head =>
  refine ⟨h.chg.size, hc.size, Nat.le_refl _, fun k _ hk => rfl, h'.chg.block, fun j c ds hj => Or.inl ?_⟩
  rw [hL.eq] at hj
  rcases getElem?_set_some hi hj with ⟨_, e⟩ | ⟨_, e⟩
  ·cases e; exact (h.box i b cs hi).2.lt
  ·exact (h.box j c ds e).2.lt
 | tail _ hu => exact h'.snap lo u hu
theorem Chg.mv {X Z : List Nat} {v V W : World} {n0 : Nat} (h : Chg X v V) (hm : Mv n0 Z V W) (hn : v.heap.size ≤ n0) (hz : ∀ z ∈ Z, v.heap.size ≤ z) : Chg X v W :=
 ⟨hm.os.trans h.os, hm.tape.trans h.tape, hm.output.trans h.output, Nat.le_trans h.size hm.size, fun b hb hx => (hm.block b (Nat.lt_of_lt_of_le hb h.size) (fun hz' => by have := hz b hz'; omega) (Or.inl om9)).trans (h.block b hb hx)⟩
section
variable {P : Program} {U : Snaps} {l : Slots} {L : Boxes}
theorem Sta.putD {E : Cfg} {U : Snaps} {L : Boxes} {w : World} {D : Nat} {o o' : Obj} (h : Sta E U L w) (ho : w.heap[D]? = some o) (hc : o.isCells = false) (hm : ∀ es k, o ≠ .map es k) (hD : E.w.heap.size ≤ D) : Sta E [] L (w.putObj D o') := by
 have hch : Chg [D] w (w.putObj D o') := Chg.putObj ho
 refine ⟨⟨hch.os.trans h.chg.os, hch.tape.trans h.chg.tape, hch.output.trans h.chg.output, Nat.le_trans h.chg.size hch.size, fun k hk hn => ?_⟩, fun i b cs hi => ?_, h.apart, fun lo u hu => by cases hu⟩
 ·exact (hch.block k (Nat.lt_of_lt_of_le hk h.chg.size) (fun e => by have := List.mem_singleton.1 e; omega)).trans (h.chg.block k hk hn)
 ·obtain ⟨h1, h2⟩ := h.box i b cs hi
  refine ⟨h1, Nat.lt_of_lt_of_le h2.lt hch.size, fun ds hd k v hk => ?_, fun es k hd => ?_⟩
  ·obtain ⟨g1, g2⟩ := h2.cell ds hd k v hk
   have hne : b ≠ D := fun e => by
    subst e
    obtain ⟨o2, ho2, hc2⟩ := cells_of_cell g1
    rw [ho] at ho2; cases ho2; rw [hc] at hc2; cases hc2
   have e := hch.block b h2.lt (fun e => hne (List.mem_singleton.1 e))
   exact ⟨(World.cell?_of_block (w := w) (w' := w.putObj D o') (a := ⟨b, k, none⟩) e).trans g1, (World.frozen?_of_block (w := w) (w' := w.putObj D o') (a := ⟨b, k, none⟩) e).trans g2⟩
  ·have g := h2.map es k hd
   have hne : b ≠ D := fun e => by
    subst e
    rw [ho] at g; cases g; exact hm _ _ rfl
   exact (hch.block b h2.lt (fun e => hne (List.mem_singleton.1 e))).trans g
theorem retMD {n D : Nat} {w0 : World} {bs : List Nat} {fn : Func} {R : Ending → World → Prop} {rs : List ResultVar} {vs : List Value} {v : Value} (hr : fn.results = rs.toArray) (h : RT P l L rs vs) (hv : Fin1 vs v) (hDl : w0.heap.size ≤ D) (hD : ∀ w, Sta ⟨n, [{ target := .collected D, args := #[] }], w0, bs⟩ U L w → w.heap[D]? = some (.deferred (some [])))
  (hR : ∀ w w', Sta ⟨n, [{ target := .collected D, args := #[] }], w0, bs⟩ U L w → Mv D [] w w' → Chg [D] w w' → R (.returned v) w') : AQ ⟨n, [{ target := .collected D, args := #[] }], w0, bs⟩ U l L (postM P fn R .ret) := fun a w hf hs => by
 show LeavesInM _ _ _ _ _ _ a.defers _ _
 rw [hf.defers]
 refine ⟨by simp, .inl ⟨_, _, rfl, run_takeDeferred (hD w hs), ?_⟩⟩
 refine ⟨v, ?_, hR w _ hs (Mv.putObj (Nat.le_refl _) (hD w hs) rfl) (Chg.putObj (hD w hs))⟩
 rw [← hv.eq]
 exact results_eq fn a.tmps rs hr vs _ (h.run hf (hs.putD (hD w hs) rfl (fun _ _ e => by cases e) hDl))
end
end
end Go.Proofs.YthggkidiidnaoaaGreat
