import Derived.Test.YtogcjgjhmlifgaaGreatOAL
import Derived.Test.YtogcjgjhmlifgaaGreatOAS
import Derived.Lib.AppendZeros
import Derived.Laws.IdiomCopy
import Derived.RangeFuncNested
import Derived.RangeFuncLeaves
import Derived.RangeFuncBound
namespace Go.Proofs.YtogcjgjhmlifgaaGreat
set_option linter.unusedVariables false
set_option linter.unusedSimpArgs false
section
set_option autoImplicit false
open Go.RowKit
def mixF (n k : Nat) (F G : Nat → List Value) : List Value := (List.range n).flatMap fun j => if j < k then F j else G j
theorem flatMap_len {α : Type} {z : Nat} (l : List α) {F : α → List Value} (hF : ∀ j, (F j).length = z) : (l.flatMap F).length = l.length * z := by
  induction l with
  | nil => simp
  | cons x r ih => rw [List.flatMap_cons, List.length_append, hF, ih, List.length_cons, Nat.add_mul]; omega
theorem flatMap_ext {α : Type} {l : List α} {F G : α → List Value} (h : ∀ x ∈ l, F x = G x) : l.flatMap F = l.flatMap G := by
  induction l with
  | nil => rfl
  | cons x r ih => rw [List.flatMap_cons, List.flatMap_cons, h x (by simp), ih (fun y hy => h y (by simp [hy]))]
theorem mixF_len {n k z : Nat} {F G : Nat → List Value} (hF : ∀ j, (F j).length = z) (hG : ∀ j, (G j).length = z) : (mixF n k F G).length = n * z := by
  have := flatMap_len (z := z) (List.range n) (F := fun j => if j < k then F j else G j) (fun j => by split <;> simp [hF, hG])
  rw [List.length_range] at this; exact this
theorem mixF_zero (n : Nat) (F G : Nat → List Value) : mixF n 0 F G = (List.range n).flatMap G := by simp [mixF]
theorem mixF_all (n : Nat) (F G : Nat → List Value) : mixF n n F G = (List.range n).flatMap F := flatMap_ext fun j hj => by rw [if_pos (List.mem_range.1 hj)]
theorem range_at {n k : Nat} (hk : k < n) : List.range n = List.range k ++ k :: List.range' (k + 1) (n - (k + 1)) := by
  have h : n = k + ((n - (k + 1)) + 1) := by omega
  conv => lhs; rw [h, List.range_add, List.range_succ_eq_map]
  rw [List.map_cons, List.map_map, Nat.add_zero, List.range'_eq_map_range]
  congr 2
  apply List.map_congr_left
  intro a _
  simp only [Function.comp_def]
  omega
theorem mixF_store {n k z : Nat} {F G : Nat → List Value} (hF : ∀ j, (F j).length = z) (hG : ∀ j, (G j).length = z) (hk : k < n) : mixF n (k + 1) F G = (mixF n k F G).take (k * z) ++ F k ++ (mixF n k F G).drop (k * z + (F k).length) := by
  have e1 : mixF n k F G = (List.range k).flatMap F ++ (G k ++ (List.range' (k + 1) (n - (k + 1))).flatMap G) := by
    unfold mixF
    rw [range_at hk, List.flatMap_append, List.flatMap_cons, if_neg (by omega)]
    congr 1
    · exact flatMap_ext fun j hj => by rw [if_pos (List.mem_range.1 hj)]
    · congr 1
      exact flatMap_ext fun j hj => by rw [List.mem_range'_1] at hj; rw [if_neg (by omega)]
  have e2 : mixF n (k + 1) F G = (List.range k).flatMap F ++ (F k ++ (List.range' (k + 1) (n - (k + 1))).flatMap G) := by
    unfold mixF
    rw [range_at hk, List.flatMap_append, List.flatMap_cons, if_pos (by omega)]
    congr 1
    · exact flatMap_ext fun j hj => by rw [if_pos (by have := List.mem_range.1 hj; omega)]
    · congr 1
      exact flatMap_ext fun j hj => by rw [List.mem_range'_1] at hj; rw [if_neg (by omega)]
  have hA : ((List.range k).flatMap F).length = k * z := by rw [flatMap_len _ hF, List.length_range]
  rw [e1, e2, List.take_left' hA, ← List.append_assoc ((List.range k).flatMap F) (G k), List.drop_left' (by rw [List.length_append, hA, hG, hF]), List.append_assoc]
theorem mixF_old {n k z : Nat} {F G : Nat → List Value} (hF : ∀ j, (F j).length = z) (hG : ∀ j, (G j).length = z) {j : Nat} (hj : j < n) {i : Nat} {v : Value} (hv : (if j < k then F j else G j)[i]? = some v) : (mixF n k F G)[j * z + i]? = some v :=
  flat_get (n := z) (enc := fun j => if j < k then F j else G j) (fun j => by split <;> simp [hF, hG]) (List.range n) j j (by simp [hj]) i v hv
theorem made_flat (zs : List Value) (n : Nat) (hz : 0 < zs.length) : (madeCells zs.toArray (n * zs.length)).toList = (List.range n).flatMap (fun _ => zs) := by
  apply List.ext_getElem?
  intro i
  rcases Nat.lt_or_ge i (n * zs.length) with h | h
  · have hm : i % zs.length < zs.length := Nat.mod_lt _ hz
    have hd : i / zs.length < n := Nat.div_lt_of_lt_mul (by rw [Nat.mul_comm]; exact h)
    have e := flat_get (n := zs.length) (enc := fun _ : Nat => zs) (fun _ => rfl) (List.range n) (i / zs.length) (i / zs.length) (by simp [hd]) (i % zs.length) _ (List.getElem?_eq_getElem hm)
    rw [Nat.div_add_mod'] at e
    rw [e]
    simp [madeCells, h, hm]
  · rw [List.getElem?_eq_none (by rw [Array.length_toList, size_madeCells]; exact h), List.getElem?_eq_none (by rw [flatMap_len (z := zs.length) _ (fun _ => rfl), List.length_range]; exact h)]
section
variable {P : Program} {e0 : Cfg} {U : Snaps} {l : Slots} {L : Boxes} {ops : Array Oper} {Q : Exit → Act → World → Prop} {rest : List Oper} {d : Nat} {v : Value}
variable {ty : TypeId} {pos : String} {af : Array Edge} {g : Option (Nat × Bool)} {dd : Option Nat}
theorem al_makeAgg {t e bytes n z : Nat} (zs : List Value) {zv : Value} {x : Int} {ol oc : Operand} (hl : E l ol = some (.int .i64 x)) (hc : E l oc = some (.int .i64 x)) (hx : x = (n : Int)) (hu : P.underlying t = some (.slice e)) (hinfo : (P.info? e).map (fun i => (i.zero, i.size, i.bytes)) = some (some zv, z, bytes)) (hz1 : zv.cells = zs.toArray) (hz : zs.length = z) (h0 : Nat.blt 0 z = true) (hm : n ≤ 1000000) (hb : bytes ≤ 10000)
    (hn : Nat.blt d e0.n = true) (hw : want ops l g = some true)
    (k : ∀ b, AL P ops Q e0 U ((d, .slice (some ⟨b, 0, none⟩) n n) :: l) ((b, .cells ((List.range n).flatMap fun _ => zs)) :: L) rest) :
    AL P ops Q e0 U l L (⟨some d, .makeSlice t ol oc, ty, pos, af, g⟩ :: rest) :=
  al_run2 (K := True) hw rfl hn (fun a w hf hs => by
    subst hx
    obtain ⟨i, hi, hzz, h1, rfl⟩ := info_split hinfo
    have hnb : i.bytes * n ≤ 10000 * 1000000 := Nat.mul_le_mul hb hm
    have hb' : (i.bytes : Int) * (n : Int) ≤ 281474976710656 := by
      have h : ((i.bytes * n : Nat) : Int) ≤ 281474976710656 := by omega
      rwa [Int.natCast_mul] at h
    have hr := run_make (P := P) w t e i zv hu hi hzz .i64 .i64 (n : Int) (n : Int) (by omega) (Int.le_refl _) hb' (by omega)
    simp only [Int.toNat_natCast, h1, hz1] at hr
    have hq := made_flat zs n (by rw [hz]; simpa [Nat.blt_eq] using h0)
    rw [hz] at hq
    have hA : madeCells zs.toArray (n * z) = ((List.range n).flatMap fun _ => zs).toArray := Array.ext' (by simpa using hq)
    rw [hA] at hr
    exact ⟨_, _, U, _, by simp [execOp, hf.ev hl, hf.ev hc, hr], hs.alloc _ e, k _⟩)
theorem al_storeV {t b off i z : Nat} {cs cs' vs : List Value} {L' : Boxes} {ox oy : Operand} (hx : E l ox = some (.pointer (some ⟨b, off, none⟩))) (hy : E l oy = some (.agg vs.toArray)) (hi : L[i]? = some (b, .cells cs))
    (hz : ∀ w, (sizeOf t).run P w = .ok z w) (hz' : vs.length = z) (hl : off + z ≤ cs.length) (hone : vs.all (fun v => v.oneCell') = true) (hc : cs' = cs.take off ++ vs ++ cs.drop (off + vs.length)) (hL : SetAt i (b, .cells cs') L L') (hw : want ops l g = some true)
    (k : AL P ops Q e0 U l L' rest) : AL P ops Q e0 U l L (⟨none, .store t ox oy, ty, pos, af, g⟩ :: rest) :=
  al_store (cs' := cs') hx hy rfl hi hz hz' (by simpa using hl) hone hc _ hL.eq hw k
end
def RowsF (F : Nat → List Int) (m : Nat) (G : Boxes) (rows : List (Option Addr × Nat)) : Prop := ∀ (i : Nat) r, rows[i]? = some r → ∃ b sp, r.1 = some ⟨b, 0, none⟩ ∧ (b, Cont.cells ((F i).map (Value.int .i64) ++ sp)) ∈ G ∧ (F i).length = m ∧ m ≤ r.2 ∧ r.2 ≤ 9223372036854775807
theorem RowsF.nil (F : Nat → List Int) (m : Nat) (G : Boxes) : RowsF F m G [] := fun i r h => by simp at h
end
section
set_option autoImplicit false
open Go.RowKit
section
variable {P : Program} {e0 : Cfg} {U : Snaps} {l : Slots} {L : Boxes} {ops : Array Oper} {Q : Exit → Act → World → Prop} {rest : List Oper} {d : Nat} {v : Value}
variable {ty : TypeId} {pos : String} {af : Array Edge} {g : Option (Nat × Bool)} {dd : Option Nat}
theorem q_upto {t e z len cap hi : Nat} {hii : Int} {k : IntKind} {A : Option Addr} {ox oj : Operand} (hx : E l ox = some (.slice A len cap)) (hi2 : E l oj = some (.int k hii)) (h2 : hii = (hi : Int)) (hcap : hi ≤ cap) (hu : P.underlying t = some (.slice e)) (hz : ∀ w, (sizeOf e).run P w = .ok z w) :
    Q1 P e0 U l L ⟨dd, .slice t ox none (some oj) none, ty, pos, af, g⟩ (.slice A hi cap) := by
  intro a w hf hs
  subst h2
  have hru : ∀ w, (underlying t).run P w = .ok (.slice e) w := fun w => run_underlying hu w
  simp only [execOp, hf.ev hx, Option.map_some, hf.ev hi2, Option.map_none]
  simp [Instr.sliceAt, Instr.slice, hru, Instr.sliceBounds, Instr.sliceBound, asIntOf, hcap, hz]
  cases A <;> simp [Addr.add]
end
end
section
set_option autoImplicit false
open Go.RowKit
section
variable {P : Program} {e0 : Cfg} {U : Snaps} {l : Slots} {L : Boxes} {ops : Array Oper} {Q : Exit → Act → World → Prop} {rest : List Oper} {d : Nat} {v : Value}
variable {ty : TypeId} {pos : String} {af : Array Edge} {g : Option (Nat × Bool)} {dd : Option Nat}
end
end
section
set_option autoImplicit false
open Go.RowKit
theorem Chg.trans {X : List Nat} {A B C : World} (h : Chg X A B) (k : Chg X B C) : Chg X A C :=
  ⟨k.os.trans h.os, k.tape.trans h.tape, k.output.trans h.output, Nat.le_trans h.size k.size, fun b hb hx => (k.block b (Nat.lt_of_lt_of_le hb h.size) hx).trans (h.block b hb hx)⟩
theorem Chg.mono {X Y : List Nat} {A B : World} (h : Chg X A B) (hX : ∀ x ∈ X, x ∈ Y) : Chg Y A B :=
  ⟨h.os, h.tape, h.output, h.size, fun b hb hy => h.block b hb (fun hx => hy (hX b hx))⟩
theorem Chg.putObj {W : World} {l : Nat} {o o' : Obj} (h : W.heap[l]? = some o) : Chg [l] W (W.putObj l o') :=
  ⟨rfl, rfl, rfl, by simp [World.putObj], fun b _ hb => World.putObj_heap_other (by simpa using hb)⟩
structure Mv (n0 : Nat) (Z : List Nat) (W W' : World) : Prop where
  os : W'.os = W.os
  tape : W'.tape = W.tape
  output : W'.output = W.output
  size : W.heap.size ≤ W'.heap.size
  block : ∀ b, b < W.heap.size → b ∉ Z → (b < n0 ∨ ∃ o : Obj, W.heap[b]? = some o ∧ o.isCells = true) → W'.heap[b]? = W.heap[b]?
theorem Mv.of_chg {n0 : Nat} {Z : List Nat} {W W' : World} (h : Chg Z W W') : Mv n0 Z W W' := ⟨h.os, h.tape, h.output, h.size, fun b hb hz _ => h.block b hb hz⟩
theorem Mv.low {n0 m0 : Nat} {Z : List Nat} {W W' : World} (h : Mv n0 Z W W') (hm : m0 ≤ n0) : Mv m0 Z W W' :=
  ⟨h.os, h.tape, h.output, h.size, fun b hb hz hc => h.block b hb hz (hc.imp (fun h => by omega) id)⟩
theorem Mv.trans {n0 : Nat} {Z : List Nat} {A B C : World} (h : Mv n0 Z A B) (k : Mv n0 Z B C) : Mv n0 Z A C :=
  ⟨k.os.trans h.os, k.tape.trans h.tape, k.output.trans h.output, Nat.le_trans h.size k.size, fun b hb hz hc => by
    have e := h.block b hb hz hc
    exact (k.block b (Nat.lt_of_lt_of_le hb h.size) hz (hc.imp id (fun ⟨o, ho, hk⟩ => ⟨o, e.trans ho, hk⟩))).trans e⟩
theorem Mv.putObj {n0 l : Nat} {Z : List Nat} {W : World} {o o' : Obj} (hl : n0 ≤ l) (h : W.heap[l]? = some o) (hc : o.isCells = false) : Mv n0 Z W (W.putObj l o') :=
  ⟨rfl, rfl, rfl, by simp [World.putObj], fun b hb _ hk => World.putObj_heap_other (fun e => by
    subst e
    rcases hk with g | ⟨o2, h2, g⟩
    · omega
    · rw [h] at h2; cases h2; rw [hc] at g; cases g)⟩
theorem IsT.keep {α : Type} {z n : Nat} {enc : α → List Value} {w w' : World} {A : Option Addr} {zs : List α} (h : IsT z enc w A n zs) (hs : w.heap.size ≤ w'.heap.size) (hk : ∀ b o, A = some ⟨b, o, none⟩ → 0 < n → w'.heap[b]? = w.heap[b]?) : IsT z enc w' A n zs :=
  ⟨h.1, fun h0 => by
    obtain ⟨b, o, e, h1, h2⟩ := h.2 h0
    exact ⟨b, o, e, Nat.lt_of_lt_of_le h1 hs, fun j x hx i v hv => (World.cell?_of_block (w := w) (w' := w') (a := ⟨b, _, none⟩) (hk b o e h0)).trans (h2 j x hx i v hv)⟩⟩
theorem IsT.mv {α : Type} {z n n0 : Nat} {Z : List Nat} {enc : α → List Value} {w w' : World} {A : Option Addr} {zs : List α} (hc : ∀ x, 0 < (enc x).length) (h : IsT z enc w A n zs) (hm : Mv n0 Z w w') (hz : ∀ b o, A = some ⟨b, o, none⟩ → b ∉ Z) : IsT z enc w' A n zs :=
  h.keep hm.size fun b o e h0 => by
    obtain ⟨b', o', e', h1, h2⟩ := h.2 h0
    rw [e] at e'; cases e'
    have hl : 0 < zs.length := by rw [h.1]; exact h0
    have hx := List.getElem?_eq_getElem hl
    have hv := List.getElem?_eq_getElem (hc zs[0])
    exact hm.block b h1 (hz b o e) (Or.inr (cells_of_cell (h2 0 _ hx 0 _ hv)))
theorem IsT.chg {α : Type} {z n : Nat} {X : List Nat} {enc : α → List Value} {w w' : World} {A : Option Addr} {zs : List α} (h : IsT z enc w A n zs) (hm : Chg X w w') (hz : ∀ b o, A = some ⟨b, o, none⟩ → b ∉ X) : IsT z enc w' A n zs :=
  h.keep hm.size fun b o e h0 => by
    obtain ⟨b', o', e', h1, h2⟩ := h.2 h0
    rw [e] at e'; cases e'
    exact hm.block b h1 (hz b o e)
theorem roundIn_n {n m : Nat} {P : Program} {l : Nat} {f : FuncId} {tmps : Array Value} {assign body : Code} {w : World} {R : Ending → World → Prop} (h : RoundIn Fence.wide n P l f tmps assign body w R) : RoundIn Fence.wide m P l f tmps assign body w R :=
  ⟨h.1, fun c cs _ => h.2 c cs (room_wide _)⟩
theorem callsIn_n {n m : Nat} {P : Program} {f : FuncId} {args : Array Value} {w : World} {R : Ending → World → Prop} (h : CallsIn Fence.wide n P f args w R) : CallsIn Fence.wide m P f args w R := callsIn_wide.2 (callsIn_wide.1 h)
end
section
set_option autoImplicit false
open Go.RowKit
def Wide (F : Fence) : Prop := F = Fence.wide ∨ ∃ l, F = Fence.wide.inRound l
theorem Wide.fn {F : Fence} (h : Wide F) (f : FuncId) : F.fn f := by rcases h with rfl | ⟨l, rfl⟩ <;> trivial
theorem Wide.depth {F : Fence} (h : Wide F) : F.depth = none := by rcases h with rfl | ⟨l, rfl⟩ <;> rfl
theorem Wide.calls {F : Fence} (h : Wide F) {n : Nat} {P : Program} {f : FuncId} {args : Array Value} {w : World} {R : Ending → World → Prop} (k : Calls P f args w R) : CallsIn F n P f args w R := by
  rcases h with rfl | ⟨l, rfl⟩
  · exact callsIn_wide.2 k
  · exact CallsIn.inRound l (callsIn_wide.2 k)
theorem Wide.rows {F : Fence} (h : Wide F) {n : Nat} {P : Program} {row : String} {args : Array Value} {w : World} {R : Value → World → Prop} (k : Rows P row args w R) : _root_.Go.RowsIn F n P row args w R := by
  have key : _root_.Go.RowsIn Fence.wide n P row args w R := fun c cs _ => by
    obtain ⟨v, w', r, s⟩ := k c cs
    exact ⟨v, w', r, stepsIn_wide.2 s⟩
  rcases h with rfl | ⟨l, rfl⟩
  · exact key
  · exact key
theorem Wide.round {F : Fence} (h : Wide F) {n m : Nat} {P : Program} {l : Nat} {f : FuncId} {tmps : Array Value} {assign body : Code} {w : World} {R : Ending → World → Prop} (k : RoundIn Fence.wide n P l f tmps assign body w R) : RoundIn F m P l f tmps assign body w R := by
  have key : RoundIn Fence.wide m P l f tmps assign body w R := roundIn_n k
  rcases h with rfl | ⟨l, rfl⟩
  · exact key
  · exact key
theorem Wide.sem {F : Fence} (h : Wide F) (ρ : Operand → Value) (o : Oper) (hd : ∀ c, o.op ≠ .defer c) : Oper.semAt F.round ρ o = execOp ρ o := Oper.semAt_eq _ ρ o hd
def noDefer (os : List Oper) : Bool := os.all fun o => match o.op with | .defer _ => false | _ => true
theorem noDefer_cons {o : Oper} {os : List Oper} (h : noDefer (o :: os) = true) : (∀ c, o.op ≠ .defer c) ∧ noDefer os = true := by
  simp only [noDefer, List.all_cons, Bool.and_eq_true] at h
  refine ⟨fun c hc => ?_, h.2⟩
  rw [hc] at h
  exact absurd h.1 (by simp)
theorem listIn_of {F : Fence} (hF : Wide F) {n : Nat} {P : Program} {ops : Array Oper} {Q : Exit → Act → World → Prop} (hQ : ¬ LetsOut Q) : ∀ (rest : List Oper) (a : Act) (w : World), noDefer rest = true → wpList P ops Q rest a w → wpListIn F n P ops Q rest a w := by
  intro rest
  induction rest with
  | nil => intro a w _ h; exact h
  | cons o rest ih =>
    intro a w hd h
    obtain ⟨hd1, hd2⟩ := noDefer_cons hd
    unfold wpList at h
    unfold wpListIn
    split
    · rename_i hw
      rw [if_pos hw] at h
      rcases h with h | h
      · refine ⟨fun f _ => hF.fn f, ?_⟩
        rw [hF.sem _ _ hd1]
        unfold Oper.wp at h
        revert h
        generalize (execOp a.eval o).run P w = r
        intro h
        cases r with
        | ok x w' =>
          cases x <;> simp only [Oper.upon, Oper.uponIn] at h ⊢ <;>
            first
              | exact h.elim
              | exact ih _ _ hd2 h
              | exact ⟨fun e => (by rw [hF.depth] at e; cases e), hF.calls (h.mono fun e w'' he => by cases e <;> first | exact ih _ _ hd2 he | exact he)⟩
              | exact ⟨fun e => (by rw [hF.depth] at e; cases e), hF.rows (h.mono fun _ _ he => ih _ _ hd2 he)⟩
        | halt x w' => cases x <;> simp only [Oper.upon, Oper.uponIn] at h ⊢ <;> first | exact h.elim | exact h
      · exact absurd h.2 hQ
    · rename_i hw
      rw [if_neg hw] at h
      exact ⟨fun f _ => hF.fn f, ih _ _ hd2 h⟩
abbrev LI (F : Fence) (P : Program) (ops : Array Oper) (Q : Exit → Act → World → Prop) (e0 : Cfg) (U : Snaps) (l : Slots) (L : Boxes) (rest : List Oper) : Prop := AQ e0 U l L (wpListIn F 0 P ops Q rest)
abbrev CI (F : Fence) (P : Program) (e0 : Cfg) (U : Snaps) (l : Slots) (L : Boxes) (c : Code) (Q : Exit → Act → World → Prop) : Prop := AQ e0 U l L (Code.wpIn F 0 P c Q)
section
variable {F : Fence} {P : Program} {e0 : Cfg} {U : Snaps} {l : Slots} {L : Boxes} {ops : Array Oper} {Q : Exit → Act → World → Prop} {rest : List Oper} {d : Nat} {v : Value}
variable {ty : TypeId} {pos : String} {af : Array Edge} {g : Option (Nat × Bool)} {dd : Option Nat} {o : Oper}
theorem ci_seq {x y : Code} (k : CI F P e0 U l L x (Exit.then (y.wpIn F 0 P Q) Q)) : CI F P e0 U l L (.seq x y) Q := fun a w hf hs => wpIn_seq (k a w hf hs)
theorem ci_skip (k : AQ e0 U l L (Q .normal)) : CI F P e0 U l L .skip Q := fun a w hf hs => wpIn_skip (k a w hf hs)
theorem ci_block {id : Nat} {c : Code} (k : CI F P e0 U l L c (Exit.inBlock id Q)) : CI F P e0 U l L (.block id c) Q := fun a w hf hs => wpIn_block (k a w hf hs)
theorem ci_condT {c : Operand} {x y : Code} (hc : E l c = some (.bool true)) (k : CI F P e0 U l L x Q) : CI F P e0 U l L (.cond c x y) Q := fun a w hf hs => wpIn_cond_true (hf.ev hc) (k a w hf hs)
theorem ci_condF {c : Operand} {x y : Code} (hc : E l c = some (.bool false)) (k : CI F P e0 U l L y Q) : CI F P e0 U l L (.cond c x y) Q := fun a w hf hs => wpIn_cond_false (hf.ev hc) (k a w hf hs)
theorem ci_region {id : Nat} {os : List Oper} (hF : Wide F) (hQ : ¬ LetsOut Q) (hd : noDefer os = true) (k : AL P os.toArray Q e0 U l L os) : CI F P e0 U l L (.region id os.toArray false) Q := fun a w hf hs => wpIn_region_lit (listIn_of hF hQ os a w hd (k a w hf hs))
theorem ci_regionY {id : Nat} {os : List Oper} (k : LI F P os.toArray Q e0 U l L os) : CI F P e0 U l L (.region id os.toArray false) Q := fun a w hf hs => wpIn_region_lit (k a w hf hs)
theorem li_end (k : AQ e0 U l L (Q .normal)) : LI F P ops Q e0 U l L [] := fun a w hf hs => k a w hf hs
theorem li_q (hF : Wide F) (hd1 : noDefer [o] = true) (q : Q1 P e0 U l L o v) (hd : o.dst = some d) (hn : Nat.blt d e0.n = true) (hw : want ops l o.guard = some true) (k : LI F P ops Q e0 U ((d, v) :: l) L rest) : LI F P ops Q e0 U l L (o :: rest) := by
  intro a w hf hs
  unfold wpListIn
  rw [if_pos (want_ok hf hw)]
  refine ⟨fun f _ => hF.fn f, ?_⟩
  rw [hF.sem _ _ (noDefer_cons hd1).1, q a w hf hs]
  show wpListIn F 0 P ops Q rest (a.put o.dst v) w
  rw [hd]
  exact k _ _ (hf.put hn v) hs
theorem li_yield {of : Operand} {ly : Nat} {xs : List Operand} {vs : List Value} {ats : Array TypeId} (hF : Wide F) (hof : E l of = some (.func (.yield ly) #[] #[])) (hxs : Es l xs vs) (hn : Nat.blt d e0.n = true) (hw : want ops l g = some true)
    (k : ∀ w, Sta e0 U L w → YieldAt Fence.wide 0 P ly vs.toArray w (fun e w' => ∃ v, e = .returned v ∧ LI F P ops Q ⟨e0.n, e0.D, w', []⟩ [] ((d, v) :: l) [] rest)) :
    LI F P ops Q e0 U l L (⟨some d, .call ⟨.value of, xs.toArray, ats⟩, ty, pos, af, g⟩ :: rest) := by
  intro a w hf hs
  unfold wpListIn
  rw [if_pos (want_ok hf hw)]
  refine ⟨fun f _ => hF.fn f, ?_⟩
  rw [hF.sem _ _ (fun c h => by cases h)]
  obtain ⟨fn, tmps, assign, body, hy, hR⟩ := k w hs
  have hargs : xs.toArray.map a.eval = vs.toArray := Array.ext' (by simp [Es.map hf hxs])
  have hrun : (execOp a.eval ⟨some d, .call ⟨.value of, xs.toArray, ats⟩, ty, pos, af, g⟩).run P w = .ok (.round ly fn tmps assign body) w := by
    simp only [execOp, resolve, hargs, hf.ev hof, Deferred.ofValue]
    simp [invoke, hy]
  rw [hrun]
  refine ⟨fun e => (by rw [hF.depth] at e; cases e), hF.round (hR.mono ?_)⟩
  rintro e w' ⟨v, rfl, hk⟩
  have hf' : Fr ⟨e0.n, e0.D, w', []⟩ ((d, v) :: l) (a.put (some d) v) := by
    have := hf.put hn v
    exact ⟨this.size, this.defers, this.slot⟩
  exact hk _ _ hf' (Sta.start _ _ _)
end
theorem Sta.cellL {E : Cfg} {U : Snaps} {L : Boxes} {w : World} (h : Sta E U L w) {b k : Nat} (hb : b < E.w.heap.size) (hn : b ∉ E.lent) : w.cell? ⟨b, k, none⟩ = E.w.cell? ⟨b, k, none⟩ := World.cell?_of_block (w := E.w) (w' := w) (a := ⟨b, k, none⟩) (h.chg.block b hb hn)
theorem Fr.rebase {n : Nat} {D : List Deferred} {w0 w1 : World} {bs bs' : List Nat} {l : Slots} {a : Act} (h : Fr ⟨n, D, w0, bs⟩ l a) : Fr ⟨n, D, w1, bs'⟩ l a := ⟨h.size, h.defers, h.slot⟩
theorem Fr.setp {n : Nat} {D : List Deferred} {w0 w1 : World} {bs bs' : List Nat} {l : Slots} {a : Act} (h : Fr ⟨n, D, w0, bs⟩ l a) {p : Nat} (hp : Nat.blt p n = true) (v : Value) : Fr ⟨n, [], w1, bs'⟩ ((p, v) :: l) { tmps := a.tmps.setIfInBounds p v, defers := [] } := by
  have := h.put hp v
  exact ⟨this.size, rfl, this.slot⟩
theorem Fr.marked {n : Nat} {w0 : World} {bs : List Nat} {l : Slots} {a : Act} (h : Fr ⟨n, [], w0, bs⟩ l a) (x : Deferred) : Fr ⟨n, [x], w0, bs⟩ l { a with defers := x :: a.defers } := ⟨h.size, by rw [h.defers], h.slot⟩
theorem ci_go {F : Fence} {P : Program} {e0 : Cfg} {U : Snaps} {l : Slots} {L : Boxes} {c : Code} {Q : Exit → Act → World → Prop} {a : Act} {w : World} (hf : Fr e0 l a) (hs : Sta e0 U L w) (k : CI F P e0 U l L c Q) : c.wpIn F 0 P Q a w := k a w hf hs
def postM (P : Program) (fn : Func) (R : Ending → World → Prop) : Exit → Act → World → Prop
  | .normal, a, w | .ret, a, w => LeavesInM Fence.wide 0 P fn a.tmps R a.defers .returning w
  | _, _, _ => False
theorem postM.up {P : Program} {fn : Func} {R : Ending → World → Prop} : ∀ e a w, postM P fn R e a w → bodyPostM Fence.wide 0 P fn R e a w
  | .normal, _, _, h => h
  | .ret, _, _, h => h
  | .exit _, _, _, h => h.elim
  | .goto _, _, _, h => h.elim
  | .panic _, _, _, h => h.elim
  | .outgrown, _, _, h => h.elim
theorem calls_axM {P : Program} {f : FuncId} {fn : Func} {c : Code} {vs : List Value} {w : World} {R : Ending → World → Prop} (hf : P.funcs[f]? = some fn) (hb : fn.body = some c) (hn : Nat.ble vs.length fn.ntmps = true)
    (k : AC P ⟨fn.ntmps, [], w, []⟩ [] (num 0 vs) [] c (postM P fn R)) : Calls P f vs.toArray w R :=
  callsIn_wide.1 (callsIn_of_wp_marks (n := 0) hf hb trivial (Go.wpIn_mono (wpIn_wide.2 (k _ w (Fr.start fn.ntmps w [] vs hn) (Sta.start _ _ w))) postM.up) rfl)
theorem callsIn_axM {P : Program} {f : FuncId} {fn : Func} {c : Code} {vs : List Value} {w : World} {R : Ending → World → Prop} (hf : P.funcs[f]? = some fn) (hb : fn.body = some c) (hn : Nat.ble vs.length fn.ntmps = true)
    (k : CI Fence.wide P ⟨fn.ntmps, [], w, []⟩ [] (num 0 vs) [] c (postM P fn R)) : CallsIn Fence.wide 0 P f vs.toArray w R :=
  callsIn_of_wp_marks (n := 0) hf hb trivial (Go.wpIn_mono (k _ w (Fr.start fn.ntmps w [] vs hn) (Sta.start _ _ w)) postM.up) rfl
end
section
set_option autoImplicit false
open Go.RowKit
def IterOwn {α : Type} (P : Program) (gf : Nat) (lb : Array Value) (enc : α → Value) (Good : List Nat → List Nat → Nat → α → World → Prop) (X : List Nat) (zl N : Nat) (w : World) : Prop :=
  ∀ (l : Nat) (J : List Nat → List Nat → Nat → World → Prop) (W : World), Below w.heap.size w W → w.heap.size ≤ l → l < W.heap.size →
    (∀ Z Y k W1 W2, J Z Y k W1 → Mv W.heap.size Z W1 W2 → J Z Y k W2) →
    (∀ Z Y k x W1, k < N → J Z Y k W1 → Good Z Y k x W1 → YieldAt Fence.wide 0 P l #[enc x] W1 (fun e W2 => e = .returned (.bool true) ∧ ∃ Y9 : List Nat, (∀ y ∈ Y9, y ∈ Y ∨ W1.heap.size ≤ y) ∧ (∀ y ∈ Y9, y < W2.heap.size) ∧ J Z Y9 (k + 1) W2 ∧ Chg (l :: (X ++ Y)) W1 W2)) →
    (∀ Z : List Nat, Z.length = zl → (∀ z ∈ Z, W.heap.size ≤ z) → J Z [] 0 W) →
    CallsIn Fence.wide 0 P gf (#[.func (.yield l) #[] #[]] ++ lb) W (fun e W' => (∃ v, e = .returned v) ∧ ∃ Z Y, J Z Y N W')
theorem wpIn_range_own {α : Type} {P : Program} {n : Nat} {g : Operand} {p : Tmp} {assign body : Code} {Q : Exit → Act → World → Prop} {a : Act} {w : World} {gf : Nat} {lb : Array Value} (hg : a.eval g = .func (.func gf) #[] lb) (eg : ∀ args w, (callFunc gf args).run P w = .ok (.enter gf args) w)
    {enc : α → Value} {Good : List Nat → List Nat → Nat → α → World → Prop} {X : List Nat} {zl N : Nat} (hseq : IterOwn P gf lb enc Good X zl N w) (I : List Nat → List Nat → Nat → World → Prop)
    (hI : ∀ Z Y k W1 W2, I Z Y k W1 → Mv w.heap.size Z W1 W2 → I Z Y k W2) (h0 : ∀ Z : List Nat, Z.length = zl → (∀ z ∈ Z, w.heap.size < z) → I Z [] 0 w)
    (hround : ∀ (l : Nat) (Z Y : List Nat) (k : Nat) (x : α) (W : World), w.heap.size ≤ l → w.heap.size ≤ W.heap.size → I Z Y k W → (∀ y ∈ Y, w.heap.size ≤ y) → Good Z Y k x W → k < N →
      assign.wpIn (Fence.wide.inRound l) 0 P (Exit.then (fun a1 W1 => Chg X W W1 ∧ ∀ W2, Mv w.heap.size [] W1 W2 → body.wpIn (Fence.wide.inRound l) 0 P (fun e a3 W3 => e = .normal ∧ ∃ Y9 : List Nat, (∀ y ∈ Y9, y ∈ Y ∨ W.heap.size ≤ y) ∧ (∀ y ∈ Y9, y < W3.heap.size) ∧ I Z Y9 (k + 1) W3 ∧ Chg (X ++ Y) W2 W3) a1 W2) (fun _ _ _ => False))
        { tmps := a.tmps.setIfInBounds p (enc x), defers := [] } W)
    (hXw : ∀ x ∈ X, x < w.heap.size)
    (hdone : ∀ (D : Nat) (Z Y : List Nat) (W : World), w.heap.size ≤ D → I Z Y N W → W.heap[D]? = some (.deferred (some [])) → Q .normal { a with defers := { target := .collected D, args := #[] } :: a.defers } W) :
    (Code.rangeFunc g #[p] assign body).wpIn Fence.wide n P Q a w := by
  refine wpIn_rangeFunc ?_
  intro fn hfn
  obtain ⟨rec, hrec⟩ : ∃ rec : LoopState → Loop, rec = fun st => { state := st, pending := none, fn, tmps := a.tmps, params := #[p], assign, body, defers := w.heap.size } := ⟨_, rfl⟩
  obtain ⟨W1, hW1⟩ : ∃ W1, (w.alloc (.deferred (some []))).alloc (.loop (rec .ready)) = W1 := ⟨_, rfl⟩
  have hL1 : W1.heap[w.heap.size + 1]? = some (.loop (rec .ready)) := by
    rw [← hW1]; have := World.alloc_heap_new (w.alloc (.deferred (some []))) (.loop (rec .ready)); rwa [World.size_alloc] at this
  have hK1 : W1.heap[w.heap.size]? = some (.deferred (some [])) := by
    rw [← hW1]; exact (Below.heap_alloc _ _ _ (by simp)).trans (World.alloc_heap_new w _)
  have hb1 : Below w.heap.size w W1 := by rw [← hW1]; exact ((Below.refl _ w).alloc (Nat.le_refl _) _).alloc (by simp) _
  have hs1 : W1.heap.size = w.heap.size + 2 := by rw [← hW1]; simp
  refine ⟨w.heap.size + 1, [{ target := .collected w.heap.size, args := #[] }], W1, { target := .fn (.func gf) lb, args := #[.func (.yield (w.heap.size + 1)) #[] #[]] }, W1, gf,
    #[.func (.yield (w.heap.size + 1)) #[] #[]] ++ lb, W1, ?_, ?_, ?_, ?_, (fun h => by cases h), ?_⟩
  · rw [← hW1, hrec]; exact run_enterLoop_outer _ _ _ _ _
  · simp only [resolve, hg]; simp [go_sem]
  · intro f' _; trivial
  · simp [invoke, go_sem, eg]
  · refine callsIn_n ((hseq (w.heap.size + 1) (fun Z Y k W => I Z Y k W ∧ (∀ y ∈ Y, W1.heap.size ≤ y) ∧ (∀ z ∈ Z, W1.heap.size ≤ z) ∧ W.heap[w.heap.size + 1]? = some (.loop (rec .ready)) ∧ W.heap[w.heap.size]? = some (.deferred (some []))) W1 hb1 (by omega) (by omega) ?_ ?_ ?_).mono ?_)
    · rintro Z Y k A B ⟨hi, hy, hz, hl, hk⟩ hm
      have l1 := (Array.getElem?_eq_some_iff.1 hl).1
      refine ⟨hI _ _ _ _ _ hi (hm.low (by omega)), hy, hz, (hm.block _ l1 (fun h => by have := hz _ h; omega) (Or.inl (by omega))).trans hl, (hm.block _ (by omega) (fun h => by have := hz _ h; omega) (Or.inl (by omega))).trans hk⟩
    · rintro Z Y k x W hkN ⟨hi, hYW, hz, hl, hk⟩ hgd
      have hlt : w.heap.size + 1 < W.heap.size := (Array.getElem?_eq_some_iff.1 hl).1
      have hy := run_yield (P := P) (args := #[enc x]) hl (by rw [hrec]; rfl)
      rw [hrec] at hy
      refine ⟨fn, _, assign, body, hy, roundIn_n (roundIn_of_wpIn (n := 0) hfn ?_)⟩
      have hzip : ((#[p] : Array Tmp).zip #[enc x]).foldl (fun t q => t.setIfInBounds q.1 q.2) a.tmps = a.tmps.setIfInBounds p (enc x) := by first | rfl | simp
      show assign.wpIn (Fence.wide.inRound _) 0 P _ ({ tmps := ((#[p] : Array Tmp).zip #[enc x]).foldl (fun t q => t.setIfInBounds q.1 q.2) a.tmps, defers := [] } : Act) W
      rw [hzip]
      refine wpIn_mono (hround (w.heap.size + 1) Z Y k x W (by omega) (by omega) hi (fun y hy => by have := hYW y hy; omega) hgd hkN) ?_
      rintro e a1 Wa hp
      cases e with
      | normal =>
        obtain ⟨hc1, hp⟩ := hp
        have e1 : Wa.heap[w.heap.size + 1]? = some (.loop (rec .ready)) := (hc1.block _ hlt (fun h => by have := hXw _ h; omega)).trans hl
        have k1 : Wa.heap[w.heap.size]? = some (.deferred (some [])) := (hc1.block _ (by omega) (fun h => by have := hXw _ h; omega)).trans hk
        have hla := (Array.getElem?_eq_some_iff.1 e1).1
        have hsz : (Wa.putObj (w.heap.size + 1) (.loop { rec .ready with state := .busy })).heap.size = Wa.heap.size := by simp [World.putObj]
        have e2 : (Wa.putObj (w.heap.size + 1) (.loop { rec .ready with state := .busy })).heap[w.heap.size + 1]? = some (.loop { rec .ready with state := .busy }) := World.putObj_heap_same hla
        have k2 : (Wa.putObj (w.heap.size + 1) (.loop { rec .ready with state := .busy })).heap[w.heap.size]? = some (.deferred (some [])) := (World.putObj_heap_other (by omega)).trans k1
        refine ⟨_, run_beginRound e1 (by rw [hrec]), wpIn_mono (hp _ (Mv.putObj (by omega) e1 rfl)) ?_⟩
        rintro e a3 W3 ⟨rfl, Y9, hy9, hyl9, hi3, hc3⟩
        have hXY : ∀ x ∈ X ++ Y, x < w.heap.size ∨ W1.heap.size ≤ x := fun x hx => (List.mem_append.1 hx).elim (fun h => Or.inl (hXw _ h)) (fun h => Or.inr (hYW _ h))
        have hWl : W1.heap.size ≤ W.heap.size ∨ W.heap.size < W1.heap.size := by omega
        have e3 : W3.heap[w.heap.size + 1]? = some (.loop { rec .ready with state := .busy }) := (hc3.block _ (by rw [hsz]; exact hla) (fun h => by have := hXY _ h; omega)).trans e2
        have k3 : W3.heap[w.heap.size]? = some (.deferred (some [])) := (hc3.block _ (by rw [hsz]; omega) (fun h => by have := hXY _ h; omega)).trans k2
        have hend := run_endRound (P := P) none e3
        rw [hrec] at hend e3
        have e4 : (W3.putObj (w.heap.size + 1) (.loop (rec .ready))).heap[w.heap.size + 1]? = some (.loop (rec .ready)) := World.putObj_heap_same (Array.getElem?_eq_some_iff.1 e3).1
        refine ⟨_, _, hend, rfl, Y9, hy9, (fun y hy => by have := hyl9 y hy; simpa [World.putObj] using this), ⟨?_, (fun y hy => (hy9 y hy).elim (fun h => hYW y h) (fun h => by omega)), hz, ?_, ?_⟩, ?_⟩
        · exact hI _ _ _ _ _ hi3 (Mv.putObj (by omega) e3 rfl)
        · rw [hrec] at e4; rw [hrec]; exact e4
        · exact (World.putObj_heap_other (by omega)).trans k3
        · refine (hc1.mono (fun x hx => List.mem_cons_of_mem _ (List.mem_append_left _ hx))).trans (((Chg.putObj e1).mono (fun x hx => by simp at hx; simp [hx])).trans ((hc3.mono (fun x hx => List.mem_cons_of_mem _ hx)).trans ((Chg.putObj e3).mono (fun x hx => by simp at hx; simp [hx]))))
      | exit id => exact hp.elim
      | goto t => exact hp.elim
      | ret => exact hp.elim
      | panic chain => exact hp.elim
      | outgrown => exact hp.elim
    · intro Z hl hz
      exact ⟨hI _ _ _ _ _ (h0 Z hl (fun z h => by have := hz z h; omega)) (Mv.of_chg (Chg.of_below _ hb1)), (fun y hy => by cases hy), hz, hL1, hK1⟩
    · rintro e W2 ⟨⟨v, rfl⟩, Z, Y, hi, hy, hz, hl, hk⟩
      refine ⟨none, _, by have := run_endLoop (P := P) hl (by rw [hrec]; simp); rw [hrec] at this; exact this, hdone _ Z Y _ (Nat.le_refl _) (hI _ _ _ _ _ hi (Mv.putObj (by omega) hl rfl)) ((World.putObj_heap_other (by omega)).trans hk)⟩
end
section
set_option autoImplicit false
open Go.RowKit
theorem wpIn_loop_x {F : Fence} {n : Nat} {P : Program} {Q : Exit → Act → World → Prop} {β : Type} {c : Code} (I : β → Act → World → Prop) (μ : β → Nat) (x0 : β) {a : Act} {w : World} (h₀ : I x0 a w)
    (round : ∀ x a w, I x a w → c.wpIn F n P (Exit.then (fun a' w' => ∃ y, μ y < μ x ∧ I y a' w') Q) a w) : (Code.loop c).wpIn F n P Q a w := by
  intro b k cs hro hb hr
  have key : ∀ m x a w, μ x = m → I x a w →
      ∃ e a' w', Q e a' w' ∧ ArrivesIn (Machine.fenced P F) P (lone (b.atR a (.code c :: .inLoop c :: k)) cs w) b k cs e a' w' := by
    intro m
    induction m using Nat.strongRecOn with
    | _ m ih =>
      intro x a w hn hI
      obtain ⟨e, a₁, w₁, hq, harr⟩ := round x a w hI b (.inLoop c :: k) cs hro hb hr
      cases e with
      | normal =>
        obtain ⟨y, hlt, hI₁⟩ := hq
        obtain ⟨e₂, a₂, w₂, hq₂, harr₂⟩ := ih (μ y) (hn ▸ hlt) y a₁ w₁ rfl hI₁
        exact ⟨e₂, a₂, w₂, hq₂, .of_steps (StepsIn.trans harr (.one (fenced_calm hb hr rfl) stepR_inLoop)) harr₂⟩
      | exit id => exact ⟨_, a₁, w₁, hq, .pass (x := .inLoop c) rfl (fun _ _ => .inl (by simp)) harr⟩
      | goto l => exact ⟨_, a₁, w₁, hq, .pass (x := .inLoop c) rfl (fun _ _ => .inl (by simp)) harr⟩
      | ret => exact ⟨_, a₁, w₁, hq, .pass (x := .inLoop c) rfl (fun _ _ => .inl (by simp)) harr⟩
      | panic ch => exact ⟨_, a₁, w₁, hq, .pass (x := .inLoop c) rfl (fun _ _ => .inl (by simp)) harr⟩
      | outgrown => exact ⟨_, a₁, w₁, hq, .pass (x := .inLoop c) rfl (fun _ _ => .inl (by simp)) harr⟩
  obtain ⟨e, a', w', hq, harr⟩ := key _ x0 a w rfl h₀
  exact ⟨e, a', w', hq, .of_steps (.one (fenced_calm hb hr rfl) stepR_loop) harr⟩
abbrev Cfg.withD (E : Cfg) (D : List Deferred) : Cfg := ⟨E.n, D, E.w, E.lent⟩
theorem Sta.withD {E : Cfg} {U : Snaps} {L : Boxes} {w : World} (h : Sta E U L w) (D : List Deferred) : Sta (E.withD D) U L w := ⟨h.chg, h.box, h.apart, h.snap⟩
theorem ci_loop {F : Fence} {P : Program} {Q : Exit → Act → World → Prop} {e0 : Cfg} {U : Snaps} {l : Slots} {L : Boxes} {β : Type} {c : Code} (Fc : β → Prop) (D : β → List Deferred) (S : β → Slots) (V : β → Snaps) (M : β → Boxes) (μ : β → Nat) (x0 : β) (h0 : Fc x0) (hD : e0.D = D x0) (hl : AllLook l (S x0)) (hL : ∀ w, Sta e0 U L w → Sta e0 (V x0) (M x0) w)
    (round : ∀ x, Fc x → CI F P (e0.withD (D x)) (V x) (S x) (M x) c (Exit.then (fun a w => ∃ y, μ y < μ x ∧ Fc y ∧ Fr (e0.withD (D y)) (S y) a ∧ Sta (e0.withD (D y)) (V y) (M y) w) Q)) : CI F P e0 U l L (.loop c) Q :=
  fun a w hf hs => wpIn_loop_x (fun x a w => Fc x ∧ Fr (e0.withD (D x)) (S x) a ∧ Sta (e0.withD (D x)) (V x) (M x) w) μ x0 ⟨h0, ⟨hf.size, hf.defers.trans hD, (hf.sub hl.sub).slot⟩, (hL w hs).withD _⟩ (fun x a w ⟨hF, hf, hs⟩ => round x hF a w hf hs)
theorem ci_round {e0 e1 : Cfg} {U : Snaps} {l : Slots} {L : Boxes} {β : Type} {Fc : β → Prop} {D : β → List Deferred} {S : β → Slots} {V : β → Snaps} {M : β → Boxes} {μ : β → Nat} {x : β} (y : β) (hE : e1 = e0.withD (D y)) (hm : μ y < μ x) (hF : Fc y) (hl : AllLook l (S y)) (hL : ∀ w, Sta e1 U L w → Sta e1 (V y) (M y) w) :
    AQ e1 U l L (fun a w => ∃ y, μ y < μ x ∧ Fc y ∧ Fr (e0.withD (D y)) (S y) a ∧ Sta (e0.withD (D y)) (V y) (M y) w) := by
  subst hE
  exact fun a w hf hs => ⟨y, hm, hF, hf.sub hl.sub, hL w hs⟩
theorem ci_exit {F : Fence} {P : Program} {Q : Exit → Act → World → Prop} {e0 : Cfg} {U : Snaps} {l : Slots} {L : Boxes} {id : Nat} (k : AQ e0 U l L (Q (.exit id))) : CI F P e0 U l L (.exit id) Q := fun a w hf hs => wpIn_exit (k a w hf hs)
theorem ci_cond {F : Fence} {P : Program} {Q : Exit → Act → World → Prop} {e0 : Cfg} {U : Snaps} {l : Slots} {L : Boxes} {c : Operand} {x y : Code} {b : Bool} (hc : E l c = some (.bool b)) (kt : b = true → CI F P e0 U l L x Q) (kf : b = false → CI F P e0 U l L y Q) : CI F P e0 U l L (.cond c x y) Q := by
  cases b
  · exact ci_condF hc (kf rfl)
  · exact ci_condT hc (kt rfl)
inductive Marks (w : World) : Nat → List Nat → Prop
  | nil {m : Nat} : Marks w m []
  | cons {m D : Nat} {Ds : List Nat} (hD : w.heap[D]? = some (.deferred (some []))) (hm : D < m) (h : Marks w D Ds) : Marks w m (D :: Ds)
theorem Marks.mono {w : World} {m m' : Nat} {Ds : List Nat} (h : Marks w m Ds) (hm : m ≤ m') : Marks w m' Ds := by
  cases h with
  | nil => exact .nil
  | cons hD h1 h2 => exact .cons hD (by omega) h2
theorem Marks.keep {w w' : World} {m : Nat} {Ds : List Nat} (h : Marks w m Ds) (hk : ∀ D, D < m → w.heap[D]? = some (.deferred (some [])) → w'.heap[D]? = w.heap[D]?) : Marks w' m Ds := by
  induction h with
  | nil => exact .nil
  | cons hD h1 h2 ih => exact .cons ((hk _ h1 hD).trans hD) h1 (ih fun D hd => hk D (by omega))
theorem Marks.lt {w : World} {m : Nat} {Ds : List Nat} (h : Marks w m Ds) : ∀ D ∈ Ds, D < m := by
  induction h with
  | nil => intro D hD; cases hD
  | cons hD h1 h2 ih =>
    intro d hd
    rcases List.mem_cons.1 hd with rfl | hd
    · exact h1
    · exact Nat.lt_trans (ih d hd) h1
theorem Sta.mv {E : Cfg} {U : Snaps} {L : Boxes} {w w' : World} {n0 : Nat} {Z : List Nat} (h : Sta E U L w) (hm : Mv n0 Z w w') (hn : E.w.heap.size ≤ n0) (hU : ∀ lo u, (lo, u) ∈ U → u.heap.size ≤ n0) (hZ : ∀ z ∈ Z, n0 ≤ z) (hc : ∀ (i b : Nat) (c : Cont), L[i]? = some (b, c) → b ∉ Z ∧ (b < n0 ∨ ∃ o : Obj, w.heap[b]? = some o ∧ o.isCells = true)) : Sta E U L w' := by
  have low : ∀ k, k < n0 → k < w.heap.size → w'.heap[k]? = w.heap[k]? := fun k hk hw => hm.block k hw (fun hz => by have := hZ k hz; omega) (Or.inl hk)
  have hs := h.chg.size
  refine ⟨⟨hm.os.trans h.chg.os, hm.tape.trans h.chg.tape, hm.output.trans h.chg.output, Nat.le_trans h.chg.size hm.size, fun k hk hl => (low k (by omega) (by omega)).trans (h.chg.block k hk hl)⟩, fun i b c hi => ?_, h.apart, fun lo u hu => ?_⟩
  · obtain ⟨h1, h2⟩ := h.box i b c hi
    obtain ⟨g1, g2⟩ := hc i b c hi
    exact ⟨h1, h2.same (hm.block b h2.lt g1 g2) hm.size⟩
  · obtain ⟨s0, s1, s2, s3, s4, s5⟩ := h.snap lo u hu
    have := hU lo u hu
    exact ⟨s0, s1, Nat.le_trans s2 hm.size, fun k h1 h2 => (low k (by omega) (by omega)).trans (s3 k h1 h2), s4, s5⟩
theorem below_mark {D : Nat} {w w9 w8 : World} (h : Below w.heap.size w w9) (hc : Chg [D] w9 w8) (hD : w.heap.size ≤ D) : Below w.heap.size w w8 :=
  ⟨hc.os.trans h.os, hc.tape.trans h.tape, hc.output.trans h.output, Nat.le_trans h.size hc.size, fun k hk => (hc.block k (Nat.lt_of_lt_of_le hk h.size) (fun e => by have := List.mem_singleton.1 e; omega)).trans (h.block k hk)⟩
end
end Go.Proofs.YtogcjgjhmlifgaaGreat
