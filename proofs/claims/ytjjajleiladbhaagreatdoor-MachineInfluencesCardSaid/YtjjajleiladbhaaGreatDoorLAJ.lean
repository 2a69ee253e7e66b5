import Derived.Test.YtjjajleiladbhaaGreatDoorLAH
import Derived.Test.YtjjajleiladbhaaGreatDoorLAI
import Derived.RangeFuncNested
import Derived.RangeFuncBound
import Derived.RangeFuncCalls
import Derived.RangeFuncLeaves
import Derived.Shelf.Abstract
import Derived.Shelf.RegionOpen
import Derived.WalkKit
import Derived.OwnWalkIn
import Derived.TacticsInMore
import Derived.LoopNIn
import Derived.LoopIn
import Derived.OrdersIn
import Derived.Laws.World
section
/- Package machine: the iterator sources of a machine that has neither coils nor shells, and fluxAt over it, over this seat's translation. -/
namespace Go.Proofs.YtjjajleiladbhaaGreatDoor
set_option linter.unusedVariables false
set_option linter.unusedSimpArgs false
open Go.RowKit Go.Shelf
attribute [local go_sem] Oper.semAt_some

theorem grown_of_below {a b : World} (h : Below a.heap.size a b) : a.grownBy b none := ⟨h.os, h.tape, h.output, h.size, fun k hk _ => h.block k hk⟩

/-- What a round keeps: what lay below n₀, and the two boxes of the iterator. -/
def KpF (n₀ tm tc : Nat) (W W' : World) : Prop := Below n₀ W W' ∧ ∀ b o, b = tm ∨ b = tc → W'.cell? ⟨b, o, none⟩ = W.cell? ⟨b, o, none⟩
theorem KpF.t {n₀ tm tc : Nat} {A B C : World} (h : KpF n₀ tm tc A B) (k : KpF n₀ tm tc B C) : KpF n₀ tm tc A C := ⟨h.1.trans k.1, fun b o hb => (k.2 b o hb).trans (h.2 b o hb)⟩
theorem KpF.refl (n₀ tm tc : Nat) (A : World) : KpF n₀ tm tc A A := ⟨Below.refl _ _, fun _ _ _ => rfl⟩
theorem KpF.of_below {n₀ tm tc : Nat} {A B : World} (h0 : n₀ ≤ A.heap.size) (h1 : tm < A.heap.size) (h2 : tc < A.heap.size) (h : Below A.heap.size A B) : KpF n₀ tm tc A B :=
  ⟨h.mono h0, fun b o hb => h.cell (p := ⟨b, o, none⟩) (by show b < _; omega)⟩
theorem KpF.b {n₀ tm tc : Nat} {w : World} (hn : n₀ ≤ w.heap.size) (h1 : tm < w.heap.size) (h2 : tc < w.heap.size) (W : World) (l : Nat) (o o' : Obj) (hl : w.heap.size ≤ l) (h : W.heap[l]? = some o) (a : o.isCells = false) (b : o.isWalk = false) : KpF n₀ tm tc W (W.putObj l o') :=
  ⟨belowK_b hn W l o o' hl h a b, fun k i hk => World.cell?_of_block (w := W) (a := ⟨k, i, none⟩) (World.putObj_heap_other (by intro e; dsimp only at e; omega))⟩
theorem KpF.cell {n₀ tm tc : Nat} {W W' : World} (h : KpF n₀ tm tc W W') {b o : Nat} {v : Value} (hb : b = tm ∨ b = tc) (hv : W.cell? ⟨b, o, none⟩ = some v) : W'.cell? ⟨b, o, none⟩ = some v := (h.2 b o hb).trans hv

/-- A place with its current. -/
abbrev Src := (Int × Int) × Int
abbrev srcEnc (x : Src) : Array Value := #[.agg #[.int .i64 x.1.1, .int .i64 x.1.2], .int .i64 x.2]
/-- The first k cells with their currents. -/
def cellSrc (g : GridD) (zs : List Int) (k : Nat) : List Src := (List.range k).map fun (j : Nat) => ((cellR g (j : Int), cellZ g (j : Int)), zs[j]?.getD 0)
/-- What the program adds up. -/
def fluxW (p : Int × Int) : Int → List Src → Int
  | s, [] => s
  | s, x :: r => fluxW p (wrap64 (s + wrap64 (infl p.1 p.2 x.1.1 x.1.2 * x.2))) r
theorem fluxW_snoc (p : Int × Int) (s : Int) (pre : List Src) (x : Src) : fluxW p s (pre ++ [x]) = wrap64 (fluxW p s pre + wrap64 (infl p.1 p.2 x.1.1 x.1.2 * x.2)) := by
  induction pre generalizing s with
  | nil => rfl
  | cons y r ih => exact ih _

set_option maxHeartbeats 1000000 in
theorem sources_in (n : Nat) (mc cc : Array Value) (w : World) :
    CallsIn Fence.wide n Tryz.prog 106 #[.agg mc, .agg cc] w fun e w' => e = .returned (.func (.func 130) #[] #[.pointer (some ⟨w.heap.size, 0, none⟩), .pointer (some ⟨w.heap.size + 1, 0, none⟩)]) ∧ w' = (w.alloc (.cells mc 29)).alloc (.cells cc 34) := by
  refine callsIn_of_wp Tryz.func106 rfl trivial ?_ rfl
  simp only [Tryz.ntmps106, List.size_toArray, List.length_cons, List.length_nil, Nat.reduceAdd, Nat.reduceSub, Array.replicate_succ, Array.replicate_zero, List.push_toArray, List.append_toArray, List.nil_append, List.cons_append]
  gi_wp2
  go_ret
  exact ⟨rfl, rfl⟩

end Go.Proofs.YtjjajleiladbhaaGreatDoor
end
section
/- Regions that draw their order, inside a fence, where the loads yield the same in every world of a class: my own laws beside the library's for activations outside of a fence. -/
namespace Go.Proofs.YtjjajleiladbhaaGreatDoor
set_option linter.unusedVariables false

section
variable {F : Fence} {n : Nat} {P : Program} {ops : Array Oper} {Q : Exit → Act → World → Prop} {md : Region.Mode} {S : World → Prop}

/-- In every world of the class, the operation gives v and leaves the world; it calls nothing. -/
structure Gives (P : Program) (ops : Array Oper) (S : World → Prop) (o : Oper) (v : Value) (a : Act) : Prop where
  gives : (Region.wanted o (yielded ops a.tmps) = true ∧ ∀ w, S w → (execOp a.eval o).run P w = .ok (.value v) w) ∨ (Region.wanted o (yielded ops a.tmps) = false ∧ v = undef)
  calm : ∀ w, o.about P w a.eval = none

theorem Gives.same {o : Oper} {v : Value} {a b : Act} (h : Gives P ops S o v a) (he : execOp b.eval o = execOp a.eval o) (hw : Region.wanted o (yielded ops b.tmps) = Region.wanted o (yielded ops a.tmps)) (hc : ∀ w, o.about P w b.eval = o.about P w a.eval) : Gives P ops S o v b :=
  ⟨by rw [he, hw]; exact h.gives, fun w => by rw [hc]; exact h.calm w⟩

theorem Gives.step {i : Nat} {o : Oper} {v : Value} {a : Act} (hro : F.round = none) (hi : ops[i]? = some o) (h : Gives P ops S o v a) {K : Act → World → Prop} {w : World} (hS : S w) (hK : K (a.put o.dst v) w) : wpOpIn F n P ops Q i K a w := by
  unfold wpOpIn
  simp only [hi]
  have hab : ∀ f, o.about P w a.eval = some f → F.fn f := fun f hf => by rw [h.calm w] at hf; cases hf
  rcases h.gives with ⟨hw, hv⟩ | ⟨hw, rfl⟩
  · simp only [hw, if_true, Oper.wpIn, hro, Oper.semAt_none, hv w hS, Oper.uponIn]; exact ⟨hab, hK⟩
  · simp only [hw, Bool.false_eq_true, if_false]; exact ⟨hab, hK⟩

/-- An operation that is apart from o: o's value may lie there already. -/
theorem step_put {j : Nat} {oi oj : Oper} {v : Value} (hro : F.round = none) (hj : ops[j]? = some oj) (hap : oi.apart ops oj = true)
    (hsi : ∀ cs b, oi.op ≠ .select cs b) (hsj : ∀ cs b, oj.op ≠ .select cs b)
    (hQ : ∀ c a w, Q (.panic c) (a.put oi.dst v) w → Q (.panic c) a w) {K : Act → World → Prop} {a : Act} {w : World}
    (hy : Gives P ops S oi v a) (h : wpOpIn F n P ops Q j K (a.put oi.dst v) w) :
    wpOpIn F n P ops Q j (fun a' w' => Gives P ops S oi v a' ∧ K (a'.put oi.dst v) w') a w := by
  obtain ⟨h1, h2, h3⟩ := Oper.apart_spec hap
  have keep : ∀ b : Act, Gives P ops S oi v b → ∀ u, Gives P ops S oi v (b.put oj.dst u) := fun b hb u =>
    hb.same (execOp_put oi hsi b oj.dst u h3) (wanted_put oi b oj.dst u h3) (fun w => about_put oi w b oj.dst u h3)
  unfold wpOpIn at *
  simp only [hj] at *
  rw [wanted_put oj a oi.dst v h1, about_put oj w a oi.dst v h1] at h
  by_cases hw : Region.wanted oj (yielded ops a.tmps) = true
  · rw [if_pos hw] at h ⊢
    unfold Oper.wpIn at *
    rw [about_put oj w a oi.dst v h1] at h
    obtain ⟨h0, h⟩ := h
    refine ⟨h0, ?_⟩
    rw [hro, Oper.semAt_none, execOp_put oj hsj a oi.dst v h1] at h
    rw [hro, Oper.semAt_none]
    cases hr : (execOp a.eval oj).run P w with
    | halt x w' =>
      rw [hr] at h
      cases x <;> simp only [Oper.uponIn] at h ⊢
      case panic u => exact hQ _ _ _ h
    | ok x w' =>
      rw [hr] at h
      cases x <;> simp only [Oper.uponIn] at h ⊢
      case value u => exact ⟨keep a hy u, by rw [← Act.put_comm a v u h2]; exact h⟩
      case skip => exact ⟨keep a hy _, by rw [← Act.put_comm a v undef h2]; exact h⟩
      case defer d => exact ⟨keep _ (hy.same (b := { a with defers := d :: a.defers }) rfl rfl (fun _ => rfl)) _, by rw [← Act.put_comm _ v undef h2, ← Act.put_defers]; exact h⟩
      case enter f args =>
        refine ⟨h.1, CallsIn.mono h.2 fun e w'' he => ?_⟩
        cases e with
        | returned u => exact ⟨keep a hy u, by rw [← Act.put_comm a v u h2]; exact he⟩
        | panicked c => exact hQ _ _ _ he
        | outgrown => exact he
      case row row args => exact ⟨h.1, RowsIn.mono h.2 fun u w'' he => ⟨keep a hy u, by rw [← Act.put_comm a v u h2]; exact he⟩⟩
      case round l f tmps assign body =>
        refine ⟨h.1, RoundIn.mono h.2 fun e w'' he => ?_⟩
        cases e with
        | returned u => exact ⟨keep a hy u, by rw [← Act.put_comm a v u h2]; exact he⟩
        | panicked c => exact hQ _ _ _ he
        | outgrown => exact he
  · rw [if_neg hw] at h ⊢
    exact ⟨h.1, keep a hy _, by rw [← Act.put_comm a v undef h2]; exact h.2⟩

/-- What has come up has all behind it that it waits for. -/
def Closed (md : Region.Mode) (ops : Array Oper) (listed : Array Bool) : Prop :=
  ∀ (k : Nat) (o : Oper), ops[k]? = some o → listed.getD k false = true → ∀ e ∈ o.after, Region.binds md e = true → listed.getD e.on false = true
theorem getD_keep {listed : Array Bool} {i k : Nat} (h : listed.getD k false = true) : (listed.setIfInBounds i true).getD k false = true := by
  by_cases e : i = k
  · subst e
    rcases Nat.lt_or_ge i listed.size with h' | h'
    · simp [h']
    · simp [Array.getElem?_eq_none h'] at h
  · rw [getD_set_ne false e]; exact h
theorem Closed.step {listed : Array Bool} {j : Nat} (h : Closed md ops listed) (hj : j ∈ Region.ready md ops listed) : Closed md ops (listed.setIfInBounds j true) := by
  intro k o ho hk e he hb
  by_cases hjk : j = k
  · subst hjk
    obtain ⟨-, o', ho', hall⟩ := mem_ready.1 hj
    obtain rfl : o' = o := Option.some.inj (ho'.symm.trans ho)
    exact getD_keep (hall e he hb)
  · rw [getD_set_ne false hjk] at hk
    exact getD_keep (h k o ho hk e he hb)
/-- c waits for i, by way of the operations named. -/
def waitsB (md : Region.Mode) (ops : Array Oper) (c : Nat) : Nat → List Nat → Bool
  | i, [] => i == c
  | i, k :: r => (match ops[k]? with
    | some o => o.after.any fun e => Region.binds md e && e.on == i
    | none => false) && waitsB md ops c k r
theorem waits_listed {listed : Array Bool} {c : Nat} (h : Closed md ops listed) (hc : listed.getD c false = true) : ∀ (ks : List Nat) (i : Nat), waitsB md ops c i ks = true → listed.getD i false = true := by
  intro ks
  induction ks with
  | nil => intro i hi; obtain rfl : i = c := by simpa [waitsB] using hi
           exact hc
  | cons k r ih =>
    intro i hi
    unfold waitsB at hi
    rw [Bool.and_eq_true] at hi
    have hk := ih k hi.2
    cases ho : ops[k]? with
    | none => rw [ho] at hi; exact absurd hi.1 (by simp)
    | some o =>
      rw [ho] at hi
      obtain ⟨e, he, hb⟩ := Array.any_eq_true'.1 hi.1
      rw [Bool.and_eq_true, beq_iff_eq] at hb
      rw [← hb.2]
      exact h k o ho hk e he hb.1
def closedB (md : Region.Mode) (ops : Array Oper) (listed : Array Bool) : Bool :=
  (List.range ops.size).all fun k => match ops[k]? with
    | some o => !listed.getD k false || o.after.all fun e => !Region.binds md e || listed.getD e.on false
    | none => true
theorem closed_of {listed : Array Bool} (h : closedB md ops listed = true) : Closed md ops listed := by
  intro k o ho hk e he hb
  have hlt : k < ops.size := (Array.getElem?_eq_some_iff.1 ho).1
  have h1 := List.all_eq_true.1 h k (List.mem_range.2 hlt)
  rw [ho] at h1
  dsimp only at h1
  rw [hk] at h1
  have h2 := Array.all_eq_true'.1 (by simpa using h1 : o.after.all (fun e => !Region.binds md e || listed.getD e.on false) = true) e he
  rw [hb] at h2
  simpa using h2

/-- Whatever comes up next: the world stays till c has come up. -/
def anyW (F : Fence) (n : Nat) (P : Program) (md : Region.Mode) (ops : Array Oper) (Q : Exit → Act → World → Prop) (c : Nat) (W : World) : Nat → Array Bool → Act → World → Prop
  | 0, listed, a, w => Region.ready md ops listed = [] ∧ Q .normal a w
  | fuel + 1, listed, a, w => (Region.ready md ops listed = [] → Q .normal a w) ∧
    ∀ i ∈ Region.ready md ops listed, wpOpIn F n P ops Q i (fun b w' => ((listed.setIfInBounds i true).getD c false = true ∨ w' = W) ∧ anyW F n P md ops Q c W fuel (listed.setIfInBounds i true) b w') a w

theorem any_of_anyW {c : Nat} {W : World} : ∀ (fuel : Nat) (listed : Array Bool) (a : Act) (w : World), anyW F n P md ops Q c W fuel listed a w → wpAnyIn F n P md ops Q fuel listed a w
  | 0, _, _, _, h => h
  | fuel + 1, _, _, _, h => ⟨h.1, fun i hi => wpOpIn_mono (fun b w' hb => any_of_anyW fuel _ b w' hb.2) (h.2 i hi)⟩
/-- Once c has come up, nothing more is asked. -/
theorem anyW_rest {c : Nat} {W : World} : ∀ (fuel : Nat) (listed : Array Bool) (a : Act) (w : World), listed.getD c false = true → wpAnyIn F n P md ops Q fuel listed a w → anyW F n P md ops Q c W fuel listed a w
  | 0, _, _, _, _, h => h
  | fuel + 1, _, _, _, hc, h => ⟨h.1, fun i hi => wpOpIn_mono (fun b w' hb => ⟨.inl (getD_keep hc), anyW_rest fuel _ b w' (getD_keep hc) hb⟩) (h.2 i hi)⟩

theorem anyW_first {c i : Nat} {W : World} {oi : Oper} {v : Value} (ks : List Nat) (hro : F.round = none) (hi : ops[i]? = some oi) (hsel : ∀ (j : Nat) (o : Oper) cs b, ops[j]? = some o → o.op ≠ .select cs b)
    (hks : waitsB md ops c i ks = true) (hic : i ≠ c) (hQ : ∀ c a w, Q (.panic c) (a.put oi.dst v) w → Q (.panic c) a w) :
    ∀ (fuel : Nat) (listed : Array Bool) (a : Act) (w : World), Closed md ops listed →
      (∀ j oj, ops[j]? = some oj → j ≠ i → listed.getD j true = false → (∀ e ∈ oj.after, Region.binds md e = true → e.on ≠ i) → oi.apart ops oj = true) →
      i ∈ Region.ready md ops listed → Gives P ops (fun w => w = W) oi v a → (listed.getD c false = true ∨ w = W) →
      anyW F n P md ops Q c W fuel (listed.setIfInBounds i true) (a.put oi.dst v) w → anyW F n P md ops Q c W (fuel + 1) listed a w := by
  have unl : ∀ listed : Array Bool, Closed md ops listed → i ∈ Region.ready md ops listed → ¬ listed.getD c false = true := fun listed hcl hr hc => by
    have h1 := waits_listed hcl hc ks i hks
    have h0 := (mem_ready.1 hr).1
    rcases Nat.lt_or_ge i listed.size with h' | h'
    · simp [h'] at h0 h1; rw [h0] at h1; cases h1
    · simp [Array.getElem?_eq_none h'] at h1
  intro fuel
  induction fuel with
  | zero =>
    intro listed a w hcl _ hr hy hw H
    have hW := hw.resolve_left (unl listed hcl hr)
    refine ⟨fun h0 => (by rw [h0] at hr; cases hr), fun j hj => ?_⟩
    by_cases e : j = i
    · subst e; exact hy.step hro hi hW ⟨.inr hW, H⟩
    · have h1 := ready_mono hj e
      rw [H.1] at h1
      cases h1
  | succ fuel ih =>
    intro listed a w hcl hap hr hy hw H
    have hW := hw.resolve_left (unl listed hcl hr)
    refine ⟨fun h0 => (by rw [h0] at hr; cases hr), fun j hj => ?_⟩
    by_cases e : j = i
    · subst e; exact hy.step hro hi hW ⟨.inr hW, H⟩
    · obtain ⟨hjun, oj, hoj, hall⟩ := mem_ready.1 hj
      have hiun := (mem_ready.1 hr).1
      have hnot : ∀ x ∈ oj.after, Region.binds md x = true → x.on ≠ i := fun x hx hb heq => by
        have h1 := hall x hx hb
        rw [heq] at h1
        rcases Nat.lt_or_ge i listed.size with h' | h'
        · simp [h'] at hiun h1; rw [hiun] at h1; cases h1
        · simp [Array.getElem?_eq_none h'] at h1
      have h2 := step_put hro hoj (hap j oj hoj e hjun hnot) (fun cs b => hsel i oi cs b hi) (fun cs b => hsel j oj cs b hoj) hQ hy (H.2 j (ready_mono hj e))
      refine wpOpIn_mono (fun b w' h3 => ?_) h2
      have h4 : (listed.setIfInBounds j true).getD c false = true ∨ w' = W := h3.2.1.imp (fun h => by
        rw [Array.setIfInBounds_comm _ _ (Ne.symm e), getD_set_ne false hic] at h; exact h) id
      refine ⟨h4, ih (listed.setIfInBounds j true) b w' (hcl.step hj) (fun k ok hk hki hun hno => hap k ok hk hki ?_ hno) (ready_mono hr (Ne.symm e)) h3.1 h4 ?_⟩
      · by_cases hjk : j = k
        · subst hjk; exact hjun
        · rw [getD_set_ne true hjk] at hun; exact hun
      · rw [Array.setIfInBounds_comm _ _ e]
        exact h3.2.2

/-- A read is taken first. -/
theorem anyW_take {c i : Nat} {W : World} {oi : Oper} {v : Value} {fuel : Nat} {listed : Array Bool} {a : Act} {w : World} (ks : List Nat) (d : Option Tmp) (hro : F.round = none) (hi : ops[i]? = some oi) (hd : oi.dst = d)
    (hs : Region.noSelect ops = true) (hf : Region.free md ops listed i = true) (hr : (Region.ready md ops listed).contains i = true) (hks : (waitsB md ops c i ks && !(i == c)) = true) (hcl : closedB md ops listed = true)
    (hQ : ∀ c a w, Q (.panic c) (a.put oi.dst v) w → Q (.panic c) a w) (hy : Gives P ops (fun w => w = W) oi v a) (hw : listed.getD c false = true ∨ w = W)
    (h : anyW F n P md ops Q c W fuel (listed.setIfInBounds i true) (a.put d v) w) : anyW F n P md ops Q c W (fuel + 1) listed a w := by
  subst hd
  rw [Bool.and_eq_true] at hks
  exact anyW_first ks hro hi (Region.noSelect_spec hs) hks.1 (by simpa using hks.2) hQ fuel listed a w (closed_of hcl) (Region.free_spec hi hf) (by simpa using hr) hy hw h

/-- c itself, the one that may come up. -/
theorem anyW_one {c : Nat} {W : World} {o : Oper} {fuel : Nat} {listed : Array Bool} {a : Act} {w : World} (hr : Region.ready md ops listed = [c]) (ho : ops[c]? = some o) (hin : (listed.setIfInBounds c true).getD c false = true)
    (h : ∀ K : Act → World → Prop, (∀ b w', wpAnyIn F n P md ops Q fuel (listed.setIfInBounds c true) b w' → K b w') → if Region.wanted o (yielded ops a.tmps) = true then Oper.wpIn F n P o a w K Q else (∀ f, o.about P w a.eval = some f → F.fn f) ∧ K (a.put o.dst undef) w) :
    anyW F n P md ops Q c W (fuel + 1) listed a w :=
  ⟨fun h0 => (by rw [hr] at h0; cases h0), fun j hj => by
    rw [hr] at hj
    obtain rfl : j = c := by simpa using hj
    exact wpOpIn_step ho fun K hK => h K fun b w' hb => hK b w' ⟨.inl hin, anyW_rest _ _ _ _ hin hb⟩⟩

/-- An operation that yields in whatever world, its destination written out. -/
theorem anyIn_takeD {i : Nat} {oi : Oper} {v : Value} {fuel : Nat} {listed : Array Bool} {a : Act} {w : World} (d : Option Tmp) (hro : F.round = none) (hi : ops[i]? = some oi) (hd : oi.dst = d)
    (hs : Region.noSelect ops = true) (hf : Region.free md ops listed i = true) (hr : (Region.ready md ops listed).contains i = true)
    (hQ : ∀ c a w, Q (.panic c) (a.put oi.dst v) w → Q (.panic c) a w) (hy : YieldsFenced P ops oi v a)
    (h : wpAnyIn F n P md ops Q fuel (listed.setIfInBounds i true) (a.put d v) w) : wpAnyIn F n P md ops Q (fuel + 1) listed a w := by
  subst hd; exact wpAnyIn_take hro hi hs hf hr hQ hy h

/-- The beginning. -/
theorem region_W {id : Nat} {a : Act} {w : World} (c : Nat) (hm : P.follows .mixedOrders = true)
    (h : anyW F n P .any ops Q c w.drew ops.size (Array.replicate ops.size false) a w.drew) : (Code.region id ops true).wpIn F n P Q a w :=
  wpIn_region_any hm (any_of_anyW _ _ _ _ h)

end
end Go.Proofs.YtjjajleiladbhaaGreatDoor
end
