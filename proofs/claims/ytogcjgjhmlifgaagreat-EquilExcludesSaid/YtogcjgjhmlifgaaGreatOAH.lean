import Derived.Test.YtogcjgjhmlifgaaGreatOAE
import Derived.Test.YtogcjgjhmlifgaaGreatOAG
import Derived.RangeFuncNested
import Derived.RangeFuncBound
import Derived.RangeFuncCalls
import Derived.RangeFuncLeaves
import Derived.Shelf.Abstract
import Derived.Shelf.RegionOpen
import Derived.WalkKit
import Derived.OwnWalkIn
import Derived.TacticsInMore
import Derived.LoopNIn
import Derived.LoopIn
import Derived.OrdersIn
import Derived.Laws.World
import Derived.Sort.CutIn
namespace Go.Proofs.YtogcjgjhmlifgaaGreat
set_option linter.unusedVariables false
set_option linter.unusedSimpArgs false
section
open Go.RowKit
def infl (a b c d : Int) : Int := if nearB a b 1000 = true ∧ nearB c d 1000 = true then 1000000 / (4 + (a - c) * (a - c) + (b - d) * (b - d)) else 0
theorem sq_bd {x : Int} (h0 : -2000 ≤ x) (h1 : x ≤ 2000) : 0 ≤ x * x ∧ x * x ≤ 4000000 := by
  rcases Int.le_total 0 x with h | h
  · exact ⟨Int.mul_nonneg h h, Int.mul_le_mul h1 h1 h (by omega)⟩
  · rw [← Int.neg_mul_neg]
    exact ⟨Int.mul_nonneg (by omega) (by omega), Int.mul_le_mul (a := -x) (b := -x) (c := 2000) (d := 2000) (by omega) (by omega) (by omega) (by omega)⟩
theorem nearB_bd {r z f : Int} (h : nearB r z f = true) : (-f ≤ r ∧ r ≤ f) ∧ -f ≤ z ∧ z ≤ f := by simpa [nearB, wthn] using h
theorem infl_bd (a b c d : Int) : 0 ≤ infl a b c d ∧ infl a b c d ≤ 250000 := by
  unfold infl
  split
  · rename_i h
    have h1 := nearB_bd h.1
    have h2 := nearB_bd h.2
    have s1 := sq_bd (x := a - c) (by omega) (by omega)
    have s2 := sq_bd (x := b - d) (by omega) (by omega)
    generalize (a - c) * (a - c) = p at *
    generalize (b - d) * (b - d) = q at *
    refine ⟨Int.ediv_nonneg (by omega) (by omega), ?_⟩
    have : 1000000 / (4 + p + q) ≤ 1000000 / 4 := by
      rw [Int.le_ediv_iff_mul_le (by omega)]
      have h4 : 1000000 / (4 + p + q) * (4 + p + q) ≤ 1000000 := Int.ediv_mul_le _ (by omega)
      have h5 : 0 ≤ 1000000 / (4 + p + q) := Int.ediv_nonneg (by omega) (by omega)
      have h6 : 1000000 / (4 + p + q) * 4 ≤ 1000000 / (4 + p + q) * (4 + p + q) := Int.mul_le_mul_of_nonneg_left (by omega) h5
      omega
    omega
  · omega
set_option maxRecDepth 100000 in
set_option maxHeartbeats 2000000 in
theorem influence_any (a b c d : Int) (w : World) :
    Calls Tryz.prog 112 #[.agg #[.int .i64 a, .int .i64 b], .agg #[.int .i64 c, .int .i64 d]] w (Ret (.int .i64 (infl a b c d)) w) := by
  cases n1 : nearB a b 1000
  · have HE : Hid (infl a b c d = 0) := Lib.hid (by unfold infl; rw [if_neg (by simp [n1])])
    go_enter Tryz.func112, Tryz.ntmps112
    go_wp2_with (go_at_call 116; refine (near_any _ _ _ _ (by omega) (by omega)).mono ?_; rintro e w1 ⟨rfl, rfl⟩)
    go_ret
    exact ⟨by rw [HE.out]; rfl, by (repeat first | with_reducible exact Below.refl _ _ | (with_reducible refine Below.alloc ?_ ?_ _; rotate_left; exact (by first | omega | (simp; done))))⟩
  cases n2 : nearB c d 1000
  · have HE : Hid (infl a b c d = 0) := Lib.hid (by unfold infl; rw [if_neg (by simp [n2])])
    go_enter Tryz.func112, Tryz.ntmps112
    go_wp2_with (go_at_call 116; refine (near_any _ _ _ _ (by omega) (by omega)).mono ?_; rintro e w1 ⟨rfl, rfl⟩)
    go_ret
    exact ⟨by rw [HE.out]; rfl, by (repeat first | with_reducible exact Below.refl _ _ | (with_reducible refine Below.alloc ?_ ?_ _; rotate_left; exact (by first | omega | (simp; done))))⟩
  have HE : Hid (infl a b c d = 1000000 / (4 + (a - c) * (a - c) + (b - d) * (b - d))) := Lib.hid (by unfold infl; rw [if_pos ⟨n1, n2⟩])
  obtain ⟨⟨a0, a1⟩, b0, b1⟩ := nearB_bd n1
  obtain ⟨⟨c0, c1⟩, d0, d1⟩ := nearB_bd n2
  have s1 := sq_bd (x := a - c) (by omega) (by omega)
  have s2 := sq_bd (x := b - d) (by omega) (by omega)
  have e1 : IntKind.i64.wrap (a - c) = a - c := IntWalk.i64_in _ (by omega)
  have e2 : IntKind.i64.wrap (b - d) = b - d := IntWalk.i64_in _ (by omega)
  go_enter Tryz.func112, Tryz.ntmps112
  go_wp2_with (go_at_call 116; refine (near_any _ _ _ _ (by omega) (by omega)).mono ?_; rintro e w1 ⟨rfl, rfl⟩)
  go_quiet (fail)
  obtain ⟨g0, g1⟩ := infl_bd a b c d
  generalize infl a b c d = G at *
  generalize hx : a - c = x at *
  generalize hy : b - d = y at *
  clear n1 n2
  generalize hp : x * x = p at *
  generalize hq : y * y = q at *
  have k0 : ¬(4 + p + q = 0) := by omega
  have k1 : ((4 + p + q) == 0) = false := by rw [beq_eq_false_iff_ne]; omega
  have k2 : (1000000 : Int).tdiv (4 + p + q) = G := by rw [HE.out]; exact Int.tdiv_eq_ediv_of_nonneg (by omega)
  have k3 : (1000000 : Int) / (4 + p + q) = G := HE.out.symm
  clear HE
  go_wp2_with fail
  go_ret
  exact ⟨rfl, by (repeat first | with_reducible exact Below.refl _ _ | (with_reducible refine Below.alloc ?_ ?_ _; rotate_left; exact (by first | omega | (simp; done))) | with_reducible refine Below_drewN ?_ _)⟩
end
section
open Go.RowKit Go.Shelf
attribute [local go_sem] Oper.semAt_some
theorem grown_of_below {a b : World} (h : Below a.heap.size a b) : a.grownBy b none := ⟨h.os, h.tape, h.output, h.size, fun k hk _ => h.block k hk⟩
def KpF (n₀ tm tc : Nat) (W W' : World) : Prop := Below n₀ W W' ∧ ∀ b o, b = tm ∨ b = tc → W'.cell? ⟨b, o, none⟩ = W.cell? ⟨b, o, none⟩
theorem KpF.t {n₀ tm tc : Nat} {A B C : World} (h : KpF n₀ tm tc A B) (k : KpF n₀ tm tc B C) : KpF n₀ tm tc A C := ⟨h.1.trans k.1, fun b o hb => (k.2 b o hb).trans (h.2 b o hb)⟩
theorem KpF.refl (n₀ tm tc : Nat) (A : World) : KpF n₀ tm tc A A := ⟨Below.refl _ _, fun _ _ _ => rfl⟩
theorem KpF.of_below {n₀ tm tc : Nat} {A B : World} (h0 : n₀ ≤ A.heap.size) (h1 : tm < A.heap.size) (h2 : tc < A.heap.size) (h : Below A.heap.size A B) : KpF n₀ tm tc A B :=
  ⟨h.mono h0, fun b o hb => h.cell (p := ⟨b, o, none⟩) (by show b < _; omega)⟩
theorem KpF.b {n₀ tm tc : Nat} {w : World} (hn : n₀ ≤ w.heap.size) (h1 : tm < w.heap.size) (h2 : tc < w.heap.size) (W : World) (l : Nat) (o o' : Obj) (hl : w.heap.size ≤ l) (h : W.heap[l]? = some o) (a : o.isCells = false) (b : o.isWalk = false) : KpF n₀ tm tc W (W.putObj l o') :=
  ⟨belowK_b hn W l o o' hl h a b, fun k i hk => World.cell?_of_block (w := W) (a := ⟨k, i, none⟩) (World.putObj_heap_other (by intro e; dsimp only at e; omega))⟩
theorem KpF.cell {n₀ tm tc : Nat} {W W' : World} (h : KpF n₀ tm tc W W') {b o : Nat} {v : Value} (hb : b = tm ∨ b = tc) (hv : W.cell? ⟨b, o, none⟩ = some v) : W'.cell? ⟨b, o, none⟩ = some v := (h.2 b o hb).trans hv
abbrev Src := (Int × Int) × Int
abbrev srcEnc (x : Src) : Array Value := #[.agg #[.int .i64 x.1.1, .int .i64 x.1.2], .int .i64 x.2]
def cellSrc (g : GridD) (zs : List Int) (k : Nat) : List Src := (List.range k).map fun (j : Nat) => ((cellR g (j : Int), cellZ g (j : Int)), zs[j]?.getD 0)
def fluxW (p : Int × Int) : Int → List Src → Int
  | s, [] => s
  | s, x :: r => fluxW p (wrap64 (s + wrap64 (infl p.1 p.2 x.1.1 x.1.2 * x.2))) r
theorem fluxW_snoc (p : Int × Int) (s : Int) (pre : List Src) (x : Src) : fluxW p s (pre ++ [x]) = wrap64 (fluxW p s pre + wrap64 (infl p.1 p.2 x.1.1 x.1.2 * x.2)) := by
  induction pre generalizing s with
  | nil => rfl
  | cons y r ih => exact ih _
set_option maxHeartbeats 1000000 in
theorem sources_in (n : Nat) (mc cc : Array Value) (w : World) :
    CallsIn Fence.wide n Tryz.prog 117 #[.agg mc, .agg cc] w fun e w' => e = .returned (.func (.func 158) #[] #[.pointer (some ⟨w.heap.size, 0, none⟩), .pointer (some ⟨w.heap.size + 1, 0, none⟩)]) ∧ w' = (w.alloc (.cells mc 29)).alloc (.cells cc 32) := by
  refine callsIn_of_wp Tryz.func117 rfl trivial ?_ rfl
  simp only [Tryz.ntmps117, List.size_toArray, List.length_cons, List.length_nil, Nat.reduceAdd, Nat.reduceSub, Array.replicate_succ, Array.replicate_zero, List.push_toArray, List.append_toArray, List.nil_append, List.cons_append]
  gi_wp2
  go_ret
  exact ⟨rfl, rfl⟩
end
section
section
variable {F : Fence} {n : Nat} {P : Program} {ops : Array Oper} {Q : Exit → Act → World → Prop} {md : Region.Mode} {S : World → Prop}
structure Gives (P : Program) (ops : Array Oper) (S : World → Prop) (o : Oper) (v : Value) (a : Act) : Prop where
  gives : (Region.wanted o (yielded ops a.tmps) = true ∧ ∀ w, S w → (execOp a.eval o).run P w = .ok (.value v) w) ∨ (Region.wanted o (yielded ops a.tmps) = false ∧ v = undef)
  calm : ∀ w, o.about P w a.eval = none
theorem Gives.same {o : Oper} {v : Value} {a b : Act} (h : Gives P ops S o v a) (he : execOp b.eval o = execOp a.eval o) (hw : Region.wanted o (yielded ops b.tmps) = Region.wanted o (yielded ops a.tmps)) (hc : ∀ w, o.about P w b.eval = o.about P w a.eval) : Gives P ops S o v b :=
  ⟨by rw [he, hw]; exact h.gives, fun w => by rw [hc]; exact h.calm w⟩
theorem Gives.step {i : Nat} {o : Oper} {v : Value} {a : Act} (hro : F.round = none) (hi : ops[i]? = some o) (h : Gives P ops S o v a) {K : Act → World → Prop} {w : World} (hS : S w) (hK : K (a.put o.dst v) w) : wpOpIn F n P ops Q i K a w := by
  unfold wpOpIn
  simp only [hi]
  have hab : ∀ f, o.about P w a.eval = some f → F.fn f := fun f hf => by rw [h.calm w] at hf; cases hf
  rcases h.gives with ⟨hw, hv⟩ | ⟨hw, rfl⟩
  · simp only [hw, if_true, Oper.wpIn, hro, Oper.semAt_none, hv w hS, Oper.uponIn]; exact ⟨hab, hK⟩
  · simp only [hw, Bool.false_eq_true, if_false]; exact ⟨hab, hK⟩
theorem step_put {j : Nat} {oi oj : Oper} {v : Value} (hro : F.round = none) (hj : ops[j]? = some oj) (hap : oi.apart ops oj = true)
    (hsi : ∀ cs b, oi.op ≠ .select cs b) (hsj : ∀ cs b, oj.op ≠ .select cs b)
    (hQ : ∀ c a w, Q (.panic c) (a.put oi.dst v) w → Q (.panic c) a w) {K : Act → World → Prop} {a : Act} {w : World}
    (hy : Gives P ops S oi v a) (h : wpOpIn F n P ops Q j K (a.put oi.dst v) w) :
    wpOpIn F n P ops Q j (fun a' w' => Gives P ops S oi v a' ∧ K (a'.put oi.dst v) w') a w := by
  obtain ⟨h1, h2, h3⟩ := Oper.apart_spec hap
  have keep : ∀ b : Act, Gives P ops S oi v b → ∀ u, Gives P ops S oi v (b.put oj.dst u) := fun b hb u =>
    hb.same (execOp_put oi hsi b oj.dst u h3) (wanted_put oi b oj.dst u h3) (fun w => about_put oi w b oj.dst u h3)
  unfold wpOpIn at *
  simp only [hj] at *
  rw [wanted_put oj a oi.dst v h1, about_put oj w a oi.dst v h1] at h
  by_cases hw : Region.wanted oj (yielded ops a.tmps) = true
  · rw [if_pos hw] at h ⊢
    unfold Oper.wpIn at *
    rw [about_put oj w a oi.dst v h1] at h
    obtain ⟨h0, h⟩ := h
    refine ⟨h0, ?_⟩
    rw [hro, Oper.semAt_none, execOp_put oj hsj a oi.dst v h1] at h
    rw [hro, Oper.semAt_none]
    cases hr : (execOp a.eval oj).run P w with
    | halt x w' =>
      rw [hr] at h
      cases x <;> simp only [Oper.uponIn] at h ⊢
      case panic u => exact hQ _ _ _ h
    | ok x w' =>
      rw [hr] at h
      cases x <;> simp only [Oper.uponIn] at h ⊢
      case value u => exact ⟨keep a hy u, by rw [← Act.put_comm a v u h2]; exact h⟩
      case skip => exact ⟨keep a hy _, by rw [← Act.put_comm a v undef h2]; exact h⟩
      case defer d => exact ⟨keep _ (hy.same (b := { a with defers := d :: a.defers }) rfl rfl (fun _ => rfl)) _, by rw [← Act.put_comm _ v undef h2, ← Act.put_defers]; exact h⟩
      case enter f args =>
        refine ⟨h.1, CallsIn.mono h.2 fun e w'' he => ?_⟩
        cases e with
        | returned u => exact ⟨keep a hy u, by rw [← Act.put_comm a v u h2]; exact he⟩
        | panicked c => exact hQ _ _ _ he
        | outgrown => exact he
      case row row args => exact ⟨h.1, RowsIn.mono h.2 fun u w'' he => ⟨keep a hy u, by rw [← Act.put_comm a v u h2]; exact he⟩⟩
      case round l f tmps assign body =>
        refine ⟨h.1, RoundIn.mono h.2 fun e w'' he => ?_⟩
        cases e with
        | returned u => exact ⟨keep a hy u, by rw [← Act.put_comm a v u h2]; exact he⟩
        | panicked c => exact hQ _ _ _ he
        | outgrown => exact he
  · rw [if_neg hw] at h ⊢
    exact ⟨h.1, keep a hy _, by rw [← Act.put_comm a v undef h2]; exact h.2⟩
def Closed (md : Region.Mode) (ops : Array Oper) (listed : Array Bool) : Prop :=
  ∀ (k : Nat) (o : Oper), ops[k]? = some o → listed.getD k false = true → ∀ e ∈ o.after, Region.binds md e = true → listed.getD e.on false = true
theorem getD_keep {listed : Array Bool} {i k : Nat} (h : listed.getD k false = true) : (listed.setIfInBounds i true).getD k false = true := by
  by_cases e : i = k
  · subst e
    rcases Nat.lt_or_ge i listed.size with h' | h'
    · simp [h']
    · simp [Array.getElem?_eq_none h'] at h
  · rw [getD_set_ne false e]; exact h
theorem Closed.step {listed : Array Bool} {j : Nat} (h : Closed md ops listed) (hj : j ∈ Region.ready md ops listed) : Closed md ops (listed.setIfInBounds j true) := by
  intro k o ho hk e he hb
  by_cases hjk : j = k
  · subst hjk
    obtain ⟨-, o', ho', hall⟩ := mem_ready.1 hj
    obtain rfl : o' = o := Option.some.inj (ho'.symm.trans ho)
    exact getD_keep (hall e he hb)
  · rw [getD_set_ne false hjk] at hk
    exact getD_keep (h k o ho hk e he hb)
def waitsB (md : Region.Mode) (ops : Array Oper) (c : Nat) : Nat → List Nat → Bool
  | i, [] => i == c
  | i, k :: r => (match ops[k]? with
    | some o => o.after.any fun e => Region.binds md e && e.on == i
    | none => false) && waitsB md ops c k r
theorem waits_listed {listed : Array Bool} {c : Nat} (h : Closed md ops listed) (hc : listed.getD c false = true) : ∀ (ks : List Nat) (i : Nat), waitsB md ops c i ks = true → listed.getD i false = true := by
  intro ks
  induction ks with
  | nil => intro i hi; obtain rfl : i = c := by simpa [waitsB] using hi
           exact hc
  | cons k r ih =>
    intro i hi
    unfold waitsB at hi
    rw [Bool.and_eq_true] at hi
    have hk := ih k hi.2
    cases ho : ops[k]? with
    | none => rw [ho] at hi; exact absurd hi.1 (by simp)
    | some o =>
      rw [ho] at hi
      obtain ⟨e, he, hb⟩ := Array.any_eq_true'.1 hi.1
      rw [Bool.and_eq_true, beq_iff_eq] at hb
      rw [← hb.2]
      exact h k o ho hk e he hb.1
def closedB (md : Region.Mode) (ops : Array Oper) (listed : Array Bool) : Bool :=
  (List.range ops.size).all fun k => match ops[k]? with
    | some o => !listed.getD k false || o.after.all fun e => !Region.binds md e || listed.getD e.on false
    | none => true
theorem closed_of {listed : Array Bool} (h : closedB md ops listed = true) : Closed md ops listed := by
  intro k o ho hk e he hb
  have hlt : k < ops.size := (Array.getElem?_eq_some_iff.1 ho).1
  have h1 := List.all_eq_true.1 h k (List.mem_range.2 hlt)
  rw [ho] at h1
  dsimp only at h1
  rw [hk] at h1
  have h2 := Array.all_eq_true'.1 (by simpa using h1 : o.after.all (fun e => !Region.binds md e || listed.getD e.on false) = true) e he
  rw [hb] at h2
  simpa using h2
def anyW (F : Fence) (n : Nat) (P : Program) (md : Region.Mode) (ops : Array Oper) (Q : Exit → Act → World → Prop) (c : Nat) (W : World) : Nat → Array Bool → Act → World → Prop
  | 0, listed, a, w => Region.ready md ops listed = [] ∧ Q .normal a w
  | fuel + 1, listed, a, w => (Region.ready md ops listed = [] → Q .normal a w) ∧
    ∀ i ∈ Region.ready md ops listed, wpOpIn F n P ops Q i (fun b w' => ((listed.setIfInBounds i true).getD c false = true ∨ w' = W) ∧ anyW F n P md ops Q c W fuel (listed.setIfInBounds i true) b w') a w
theorem any_of_anyW {c : Nat} {W : World} : ∀ (fuel : Nat) (listed : Array Bool) (a : Act) (w : World), anyW F n P md ops Q c W fuel listed a w → wpAnyIn F n P md ops Q fuel listed a w
  | 0, _, _, _, h => h
  | fuel + 1, _, _, _, h => ⟨h.1, fun i hi => wpOpIn_mono (fun b w' hb => any_of_anyW fuel _ b w' hb.2) (h.2 i hi)⟩
theorem anyW_rest {c : Nat} {W : World} : ∀ (fuel : Nat) (listed : Array Bool) (a : Act) (w : World), listed.getD c false = true → wpAnyIn F n P md ops Q fuel listed a w → anyW F n P md ops Q c W fuel listed a w
  | 0, _, _, _, _, h => h
  | fuel + 1, _, _, _, hc, h => ⟨h.1, fun i hi => wpOpIn_mono (fun b w' hb => ⟨.inl (getD_keep hc), anyW_rest fuel _ b w' (getD_keep hc) hb⟩) (h.2 i hi)⟩
theorem anyW_first {c i : Nat} {W : World} {oi : Oper} {v : Value} (ks : List Nat) (hro : F.round = none) (hi : ops[i]? = some oi) (hsel : ∀ (j : Nat) (o : Oper) cs b, ops[j]? = some o → o.op ≠ .select cs b)
    (hks : waitsB md ops c i ks = true) (hic : i ≠ c) (hQ : ∀ c a w, Q (.panic c) (a.put oi.dst v) w → Q (.panic c) a w) :
    ∀ (fuel : Nat) (listed : Array Bool) (a : Act) (w : World), Closed md ops listed →
      (∀ j oj, ops[j]? = some oj → j ≠ i → listed.getD j true = false → (∀ e ∈ oj.after, Region.binds md e = true → e.on ≠ i) → oi.apart ops oj = true) →
      i ∈ Region.ready md ops listed → Gives P ops (fun w => w = W) oi v a → (listed.getD c false = true ∨ w = W) →
      anyW F n P md ops Q c W fuel (listed.setIfInBounds i true) (a.put oi.dst v) w → anyW F n P md ops Q c W (fuel + 1) listed a w := by
  have unl : ∀ listed : Array Bool, Closed md ops listed → i ∈ Region.ready md ops listed → ¬ listed.getD c false = true := fun listed hcl hr hc => by
    have h1 := waits_listed hcl hc ks i hks
    have h0 := (mem_ready.1 hr).1
    rcases Nat.lt_or_ge i listed.size with h' | h'
    · simp [h'] at h0 h1; rw [h0] at h1; cases h1
    · simp [Array.getElem?_eq_none h'] at h1
  intro fuel
  induction fuel with
  | zero =>
    intro listed a w hcl _ hr hy hw H
    have hW := hw.resolve_left (unl listed hcl hr)
    refine ⟨fun h0 => (by rw [h0] at hr; cases hr), fun j hj => ?_⟩
    by_cases e : j = i
    · subst e; exact hy.step hro hi hW ⟨.inr hW, H⟩
    · have h1 := ready_mono hj e
      rw [H.1] at h1
      cases h1
  | succ fuel ih =>
    intro listed a w hcl hap hr hy hw H
    have hW := hw.resolve_left (unl listed hcl hr)
    refine ⟨fun h0 => (by rw [h0] at hr; cases hr), fun j hj => ?_⟩
    by_cases e : j = i
    · subst e; exact hy.step hro hi hW ⟨.inr hW, H⟩
    · obtain ⟨hjun, oj, hoj, hall⟩ := mem_ready.1 hj
      have hiun := (mem_ready.1 hr).1
      have hnot : ∀ x ∈ oj.after, Region.binds md x = true → x.on ≠ i := fun x hx hb heq => by
        have h1 := hall x hx hb
        rw [heq] at h1
        rcases Nat.lt_or_ge i listed.size with h' | h'
        · simp [h'] at hiun h1; rw [hiun] at h1; cases h1
        · simp [Array.getElem?_eq_none h'] at h1
      have h2 := step_put hro hoj (hap j oj hoj e hjun hnot) (fun cs b => hsel i oi cs b hi) (fun cs b => hsel j oj cs b hoj) hQ hy (H.2 j (ready_mono hj e))
      refine wpOpIn_mono (fun b w' h3 => ?_) h2
      have h4 : (listed.setIfInBounds j true).getD c false = true ∨ w' = W := h3.2.1.imp (fun h => by
        rw [Array.setIfInBounds_comm _ _ (Ne.symm e), getD_set_ne false hic] at h; exact h) id
      refine ⟨h4, ih (listed.setIfInBounds j true) b w' (hcl.step hj) (fun k ok hk hki hun hno => hap k ok hk hki ?_ hno) (ready_mono hr (Ne.symm e)) h3.1 h4 ?_⟩
      · by_cases hjk : j = k
        · subst hjk; exact hjun
        · rw [getD_set_ne true hjk] at hun; exact hun
      · rw [Array.setIfInBounds_comm _ _ e]
        exact h3.2.2
theorem anyW_take {c i : Nat} {W : World} {oi : Oper} {v : Value} {fuel : Nat} {listed : Array Bool} {a : Act} {w : World} (ks : List Nat) (d : Option Tmp) (hro : F.round = none) (hi : ops[i]? = some oi) (hd : oi.dst = d)
    (hs : Region.noSelect ops = true) (hf : Region.free md ops listed i = true) (hr : (Region.ready md ops listed).contains i = true) (hks : (waitsB md ops c i ks && !(i == c)) = true) (hcl : closedB md ops listed = true)
    (hQ : ∀ c a w, Q (.panic c) (a.put oi.dst v) w → Q (.panic c) a w) (hy : Gives P ops (fun w => w = W) oi v a) (hw : listed.getD c false = true ∨ w = W)
    (h : anyW F n P md ops Q c W fuel (listed.setIfInBounds i true) (a.put d v) w) : anyW F n P md ops Q c W (fuel + 1) listed a w := by
  subst hd
  rw [Bool.and_eq_true] at hks
  exact anyW_first ks hro hi (Region.noSelect_spec hs) hks.1 (by simpa using hks.2) hQ fuel listed a w (closed_of hcl) (Region.free_spec hi hf) (by simpa using hr) hy hw h
theorem anyW_one {c : Nat} {W : World} {o : Oper} {fuel : Nat} {listed : Array Bool} {a : Act} {w : World} (hr : Region.ready md ops listed = [c]) (ho : ops[c]? = some o) (hin : (listed.setIfInBounds c true).getD c false = true)
    (h : ∀ K : Act → World → Prop, (∀ b w', wpAnyIn F n P md ops Q fuel (listed.setIfInBounds c true) b w' → K b w') → if Region.wanted o (yielded ops a.tmps) = true then Oper.wpIn F n P o a w K Q else (∀ f, o.about P w a.eval = some f → F.fn f) ∧ K (a.put o.dst undef) w) :
    anyW F n P md ops Q c W (fuel + 1) listed a w :=
  ⟨fun h0 => (by rw [hr] at h0; cases h0), fun j hj => by
    rw [hr] at hj
    obtain rfl : j = c := by simpa using hj
    exact wpOpIn_step ho fun K hK => h K fun b w' hb => hK b w' ⟨.inl hin, anyW_rest _ _ _ _ hin hb⟩⟩
theorem anyIn_takeD {i : Nat} {oi : Oper} {v : Value} {fuel : Nat} {listed : Array Bool} {a : Act} {w : World} (d : Option Tmp) (hro : F.round = none) (hi : ops[i]? = some oi) (hd : oi.dst = d)
    (hs : Region.noSelect ops = true) (hf : Region.free md ops listed i = true) (hr : (Region.ready md ops listed).contains i = true)
    (hQ : ∀ c a w, Q (.panic c) (a.put oi.dst v) w → Q (.panic c) a w) (hy : YieldsFenced P ops oi v a)
    (h : wpAnyIn F n P md ops Q fuel (listed.setIfInBounds i true) (a.put d v) w) : wpAnyIn F n P md ops Q (fuel + 1) listed a w := by
  subst hd; exact wpAnyIn_take hro hi hs hf hr hQ hy h
theorem region_W {id : Nat} {a : Act} {w : World} (c : Nat) (hm : P.follows .mixedOrders = true)
    (h : anyW F n P .any ops Q c w.drew ops.size (Array.replicate ops.size false) a w.drew) : (Code.region id ops true).wpIn F n P Q a w :=
  wpIn_region_any hm (any_of_anyW _ _ _ _ h)
end
end
section
open Go.RowKit Go.Shelf
attribute [local go_sem] Oper.semAt_some
def srcL (g : GridD) (cs : List CoilD) (ss : List ShellD) (z1 z2 z3 : List Int) : List Src :=
  List.zipWith (fun c x => ((c.r, c.z), c.turns * x)) cs z1 ++ (List.zipWith (fun s x => ((s.r, s.z), x)) ss z2 ++ cellSrc g z3 z3.length)
theorem srcL_coil {g : GridD} {cs : List CoilD} {ss : List ShellD} {z1 z2 z3 : List Int} (h1 : z1.length = cs.length) (k : Nat) (c : CoilD) (x : Int) (hc : cs[k]? = some c) (hx : z1[k]? = some x) : (srcL g cs ss z1 z2 z3)[k]? = some ((c.r, c.z), c.turns * x) := by
  have hk : k < cs.length := (List.getElem?_eq_some_iff.1 hc).1
  unfold srcL
  rw [List.getElem?_append_left (by simp; omega)]
  simp [List.getElem?_zipWith, hc, hx]
theorem srcL_shell {g : GridD} {cs : List CoilD} {ss : List ShellD} {z1 z2 z3 : List Int} (h1 : z1.length = cs.length) (h2 : z2.length = ss.length) (k : Nat) (c : ShellD) (x : Int) (hc : ss[k]? = some c) (hx : z2[k]? = some x) : (srcL g cs ss z1 z2 z3)[cs.length + k]? = some ((c.r, c.z), x) := by
  have hk : k < ss.length := (List.getElem?_eq_some_iff.1 hc).1
  unfold srcL
  rw [List.getElem?_append_right (by simp; omega)]
  rw [List.getElem?_append_left (by simp; omega)]
  have e : cs.length + k - (List.zipWith (fun (c : CoilD) (x : Int) => ((c.r, c.z), c.turns * x)) cs z1).length = k := by simp; omega
  rw [e]
  simp [List.getElem?_zipWith, hc, hx]
theorem srcL_cell {g : GridD} {cs : List CoilD} {ss : List ShellD} {z1 z2 z3 : List Int} (h1 : z1.length = cs.length) (h2 : z2.length = ss.length) (k : Nat) (x : Int) (hx : z3[k]? = some x) : (srcL g cs ss z1 z2 z3)[cs.length + (ss.length + k)]? = some ((cellR g (k : Int), cellZ g (k : Int)), x) := by
  have hk : k < z3.length := (List.getElem?_eq_some_iff.1 hx).1
  unfold srcL
  rw [List.getElem?_append_right (by simp; omega)]
  rw [List.getElem?_append_right (by simp; omega)]
  have e : cs.length + (ss.length + k) - (List.zipWith (fun (c : CoilD) (x : Int) => ((c.r, c.z), c.turns * x)) cs z1).length - (List.zipWith (fun (s : ShellD) (x : Int) => ((s.r, s.z), x)) ss z2).length = k := by simp; omega
  rw [e]
  simp [cellSrc, List.getElem?_map, List.getElem?_range hk, hx]
theorem srcL_length {g : GridD} {cs : List CoilD} {ss : List ShellD} {z1 z2 z3 : List Int} (h1 : z1.length = cs.length) (h2 : z2.length = ss.length) : (srcL g cs ss z1 z2 z3).length = cs.length + (ss.length + z3.length) := by
  unfold srcL; simp [cellSrc]; omega
theorem bool_of {e : Ending} {P Q : Prop} (h : (e = .returned (.bool true) ∧ P) ∨ (e = .returned (.bool false) ∧ Q)) : ∃ b : Bool, e = .returned (.bool b) ∧ (b = true → P) ∧ (b = false → Q) := by
  rcases h with ⟨h, p⟩ | ⟨h, q⟩
  · exact ⟨true, h, fun _ => p, (fun e => by cases e)⟩
  · exact ⟨false, h, (fun e => by cases e), fun _ => q⟩
theorem take_snoc {α : Type} {l : List α} {k : Nat} {x : α} (h : l[k]? = some x) : l.take (k + 1) = l.take k ++ [x] := by
  obtain ⟨hk, rfl⟩ := List.getElem?_eq_some_iff.1 h
  exact List.take_succ_eq_append_getElem hk
set_option maxRecDepth 100000 in
set_option maxHeartbeats 16000000 in
theorem sources1_any (n : Nat) (hn : 3 ≤ n) (l tm tc la ca lb cb na qa nb qb len cap : Nat) (A B A1 B1 C : Option Addr) (g : GridD) (hg : g.Fine) (cs : List CoilD) (ss : List ShellD) (z1 z2 z3 : List Int) (S : List Src)
    (h1 : z1.length = cs.length) (h2 : z2.length = ss.length) (hS : S = srcL g cs ss z1 z2 z3) (hl : len ≤ 1000) (kla : la ≤ 1000) (klb : lb ≤ 1000)
    (hmul : ∀ (k : Nat) c x, cs[k]? = some c → z1[k]? = some x → IntKind.i64.wrap (c.turns * x) = c.turns * x) (J Jx : List Src → World → Prop) (w0 : World)
    (hJ : ∀ pre W W', J pre W → Below W.heap.size W W' → J pre W')
    (hY : ∀ pre x W, J pre W → pre.length < S.length → YieldAt Fence.wide (n - 1) Tryz.prog l (srcEnc x) W fun e W' =>
      (e = .returned (.bool true) ∧ J (pre ++ [x]) W' ∧ KpF w0.heap.size tm tc W W') ∨ (e = .returned (.bool false) ∧ Jx (pre ++ [x]) W'))
    (W : World) (hA : IsT 8 CoilD.cells w0 A la cs) (hBb : IsT 4 ShellD.cells w0 B lb ss) (hA1 : IsT 1 intCells w0 A1 na z1) (hB1 : IsT 1 intCells w0 B1 nb z2) (hC : IsT 1 intCells w0 C len z3) (hw0 : Below w0.heap.size w0 W)
    (htm : tm < W.heap.size) (htc : tc < W.heap.size)
    (m1 : W.cell? ⟨tm, 1, none⟩ = some (.slice A la ca)) (m2 : W.cell? ⟨tm, 2, none⟩ = some (.slice B lb cb)) (m4 : W.cell? ⟨tm, 4, none⟩ = some (.int .i64 g.r)) (m5 : W.cell? ⟨tm, 5, none⟩ = some (.int .i64 g.z)) (m6 : W.cell? ⟨tm, 6, none⟩ = some (.int .i64 g.nr)) (m7 : W.cell? ⟨tm, 7, none⟩ = some (.int .i64 g.nz)) (m8 : W.cell? ⟨tm, 8, none⟩ = some (.int .i64 g.step))
    (k0 : W.cell? ⟨tc, 0, none⟩ = some (.slice A1 na qa)) (k1 : W.cell? ⟨tc, 1, none⟩ = some (.slice B1 nb qb)) (k2 : W.cell? ⟨tc, 2, none⟩ = some (.slice C len cap)) (h0 : J [] W) :
    CallsIn Fence.wide n Tryz.prog 158 #[.func (.yield l) #[] #[], .pointer (some ⟨tm, 0, none⟩), .pointer (some ⟨tc, 0, none⟩)] W fun e W' => (∃ v, e = .returned v) ∧
      ((∃ ys, ys = S ∧ J ys W') ∨ (∃ pre, (∃ k, k ≤ S.length ∧ pre = S.take k) ∧ Jx pre W')) := by
  have hlen : S.length = la + (lb + len) := by rw [hS, srcL_length h1 h2, hA.1, hBb.1, hC.1]
  have HP := Lib.hid (fun (i : Nat) (hi : i < len) W => cellPlace_any g (i : Int) W hg (by omega) (by omega))
  have HJ := Lib.hid hJ
  have HYY := Lib.hid hY
  have HS1 := Lib.hid (fun k c x hc hx => hS ▸ srcL_coil (g := g) (ss := ss) (z2 := z2) (z3 := z3) h1 k c x hc hx : ∀ (k : Nat) c x, cs[k]? = some c → z1[k]? = some x → S[k]? = some ((c.r, c.z), c.turns * x))
  have HS2 : Hid (∀ (k : Nat) c x, ss[k]? = some c → z2[k]? = some x → S[la + k]? = some ((c.r, c.z), x)) := Lib.hid (fun k c x hc hx => by rw [hS, ← hA.1]; exact srcL_shell h1 h2 k c x hc hx)
  have HS3 : Hid (∀ (k : Nat) x, z3[k]? = some x → S[la + (lb + k)]? = some ((cellR g (k : Int), cellZ g (k : Int)), x)) := Lib.hid (fun k x hx => by rw [hS, ← hA.1, ← hBb.1]; exact srcL_cell h1 h2 k x hx)
  have HA := Lib.hid hA
  have HBb := Lib.hid hBb
  have HA1 := Lib.hid hA1
  have HB1 := Lib.hid hB1
  have HC := Lib.hid hC
  have HM := Lib.hid hmul
  have hna : na = la := by have := hA.1; have := hA1.1; omega
  have hnb : nb = lb := by have := hBb.1; have := hB1.1; omega
  subst hna hnb
  clear hY hJ hC hg hA hBb hA1 hB1 hmul hS h1 h2
  have h86 : Fence.wide.fn 159 := trivial
  refine callsIn_of_wp Tryz.func158 rfl trivial ?_ rfl
  simp only [Tryz.ntmps158, List.size_toArray, List.length_cons, List.length_nil, Nat.reduceAdd, Nat.reduceSub, Array.replicate_succ, Array.replicate_zero, List.push_toArray, List.append_toArray, List.nil_append, List.cons_append]
  gi_wp2
  gi_loopw [13] (fun i wx => ∃ k : Nat, k ≤ na ∧ i = .int .i64 k ∧ J (S.take k) wx ∧ KpF w0.heap.size tm tc W wx ∧ W.heap.size ≤ wx.heap.size) (fun i _ => na - (intOf i).toNat)
  case atStart => exact ⟨0, Nat.zero_le _, rfl, h0, KpF.refl _ _ _ _, Nat.le_refl _⟩
  case round =>
    obtain ⟨k, hk, rfl, hJs, hnx, hsz⟩ := hrel
    have hB0 := hw0.trans hnx.1
    by_cases hlt : k < na
    · obtain ⟨hzl, hcl⟩ := HA.out
      obtain ⟨b, o, rfl, hb0, hcl⟩ := hcl (by omega)
      obtain ⟨hzl1, hcl1⟩ := HA1.out
      obtain ⟨b1, o1, rfl, hb1, hcl1⟩ := hcl1 (by omega)
      obtain ⟨c, hc⟩ : ∃ c, cs[k]? = some c := ⟨_, List.getElem?_eq_getElem (by omega)⟩
      obtain ⟨x, hx⟩ : ∃ x, z1[k]? = some x := ⟨_, List.getElem?_eq_getElem (by omega)⟩
      have x0 : wr.cell? ⟨b, o + k * 8, none⟩ = some (.string c.name) := (hB0.cell (p := ⟨b, _, none⟩) hb0).trans (by have h := hcl k c hc 0 _ rfl; simpa using h)
      have x1 : wr.cell? ⟨b, o + k * 8 + 1, none⟩ = some (.int .i64 c.r) := (hB0.cell (p := ⟨b, _, none⟩) hb0).trans (by have h := hcl k c hc 1 _ rfl; simpa using h)
      have x2 : wr.cell? ⟨b, o + k * 8 + 2, none⟩ = some (.int .i64 c.z) := (hB0.cell (p := ⟨b, _, none⟩) hb0).trans (by have h := hcl k c hc 2 _ rfl; simpa using h)
      have x3 : wr.cell? ⟨b, o + k * 8 + 3, none⟩ = some (.int .i64 c.turns) := (hB0.cell (p := ⟨b, _, none⟩) hb0).trans (by have h := hcl k c hc 3 _ rfl; simpa using h)
      have x4 : wr.cell? ⟨b, o + k * 8 + 4, none⟩ = some (.int .i64 c.cur) := (hB0.cell (p := ⟨b, _, none⟩) hb0).trans (by have h := hcl k c hc 4 _ rfl; simpa using h)
      have x5 : wr.cell? ⟨b, o + k * 8 + 5, none⟩ = some (.int .i64 c.step) := (hB0.cell (p := ⟨b, _, none⟩) hb0).trans (by have h := hcl k c hc 5 _ rfl; simpa using h)
      have x6 : wr.cell? ⟨b, o + k * 8 + 6, none⟩ = some (.int .i64 c.heat) := (hB0.cell (p := ⟨b, _, none⟩) hb0).trans (by have h := hcl k c hc 6 _ rfl; simpa using h)
      have x7 : wr.cell? ⟨b, o + k * 8 + 7, none⟩ = some (.int .i64 c.cool) := (hB0.cell (p := ⟨b, _, none⟩) hb0).trans (by have h := hcl k c hc 7 _ rfl; simpa using h)
      have y0 : wr.cell? ⟨b1, o1 + k, none⟩ = some (.int .i64 x) := (hB0.cell (p := ⟨b1, _, none⟩) hb1).trans (by have h := hcl1 k x hx 0 _ rfl; simpa using h)
      have k0' := hnx.cell (.inr rfl) k0
      have hmk := HM.out k c x hc hx
      have HX := Lib.hid (take_snoc (HS1.out k c x hc hx))
      have HYk := Lib.hid (fun W1 (hJ1 : J (S.take k) W1) => HYY.out _ ((c.r, c.z), c.turns * x) W1 hJ1 (by rw [List.length_take]; omega))
      have szb := hB0.size
      clear hcl hcl1 hc hx hzl hzl1
      obtain ⟨nm, cr, cz, ct, cc, cst, chh, cco⟩ := c
      dsimp only at *
      gi_wp2
      have hbW : Below wr.heap.size wr (wr.alloc (.cells #[.string nm, .int .i64 cr, .int .i64 cz, .int .i64 ct, .int .i64 cc, .int .i64 cst, .int .i64 chh, .int .i64 cco] 164)) := by (repeat first | with_reducible exact Below.refl _ _ | (with_reducible refine Below.alloc ?_ ?_ _; rotate_left; exact (by omega)))
      have e1 : (wr.alloc (.cells #[.string nm, .int .i64 cr, .int .i64 cz, .int .i64 ct, .int .i64 cc, .int .i64 cst, .int .i64 chh, .int .i64 cco] 164)).cell? ⟨wr.heap.size, 1, none⟩ = some (.int .i64 cr) := by go_simp
      have e2 : (wr.alloc (.cells #[.string nm, .int .i64 cr, .int .i64 cz, .int .i64 ct, .int .i64 cc, .int .i64 cst, .int .i64 chh, .int .i64 cco] 164)).cell? ⟨wr.heap.size, 2, none⟩ = some (.int .i64 cz) := by go_simp
      have e3 : (wr.alloc (.cells #[.string nm, .int .i64 cr, .int .i64 cz, .int .i64 ct, .int .i64 cc, .int .i64 cst, .int .i64 chh, .int .i64 cco] 164)).cell? ⟨wr.heap.size, 3, none⟩ = some (.int .i64 ct) := by go_simp
      have e0 : (wr.alloc (.cells #[.string nm, .int .i64 cr, .int .i64 cz, .int .i64 ct, .int .i64 cc, .int .i64 cst, .int .i64 chh, .int .i64 cco] 164)).cell? ⟨tc, 0, none⟩ = some (.slice (some ⟨b1, o1, none⟩) na qa) := (hbW.cell (p := ⟨tc, 0, none⟩) (by dsimp only; omega)).trans k0'
      have ey : (wr.alloc (.cells #[.string nm, .int .i64 cr, .int .i64 cz, .int .i64 ct, .int .i64 cc, .int .i64 cst, .int .i64 chh, .int .i64 cco] 164)).cell? ⟨b1, o1 + k, none⟩ = some (.int .i64 x) := (hbW.cell (p := ⟨b1, o1 + k, none⟩) (by dsimp only; omega)).trans y0
      obtain ⟨W1, hW1⟩ : ∃ W1, wr.alloc (.cells #[.string nm, .int .i64 cr, .int .i64 cz, .int .i64 ct, .int .i64 cc, .int .i64 cst, .int .i64 chh, .int .i64 cco] 164) = W1 := ⟨_, rfl⟩
      rw [hW1] at hbW e1 e2 e3 e0 ey ⊢
      clear hW1 x0 x1 x2 x3 x4 x5 x6 x7 y0 k0'
      obtain ⟨fn, tmps, assign, body, hy, hR⟩ := HYk.out W1.drew (HJ.out _ _ _ hJs hbW.drew)
      simp only [srcEnc] at hy
      clear HYk
      have hmx : Tryz.prog.follows .mixedOrders = true := by kernel_rfl
      gi_cut [33] from 74 (fun s33 wx => ∃ bb : Bool, s33 = .bool (!bb) ∧ Hid (bb = true → J (S.take k ++ [((cr, cz), ct * x)]) wx ∧ KpF w0.heap.size tm tc W1.drew wx) ∧ Hid (bb = false → Jx (S.take k ++ [((cr, cz), ct * x)]) wx))
      case first =>
        clear HP HJ HYY HS1 HS2 HS3 HA HBb HA1 HB1 HC HM HX hnx hw0 hB0 m2 m4 m5 m6 m7 m8 k1 k2 h0 hJs
        refine region_W 14 (by kernel_rfl) ?_
        refine anyW_take (i := 0) (v := (.func (.yield l) #[] #[])) [14] (some 18) rfl rfl rfl (by kernel_rfl) (by kernel_rfl) (by kernel_rfl) (by kernel_rfl) (by kernel_rfl) (fun _ _ _ h => h) ⟨Or.inl ⟨by rfl, fun w' hw => (by subst hw; go_simp)⟩, fun _ => rfl⟩ (Or.inr rfl) ?_; (try simp only [Act.put, List.setIfInBounds_toArray, List.set_cons_zero, List.set_cons_succ])
        refine anyW_take (i := 1) (v := (.pointer (some ⟨wr.heap.size, 1, none⟩))) [2, 5, 14] (some 19) rfl rfl rfl (by kernel_rfl) (by kernel_rfl) (by kernel_rfl) (by kernel_rfl) (by kernel_rfl) (fun _ _ _ h => h) ⟨Or.inl ⟨by rfl, fun w' hw => (by subst hw; go_simp)⟩, fun _ => rfl⟩ (Or.inr rfl) ?_; (try simp only [Act.put, List.setIfInBounds_toArray, List.set_cons_zero, List.set_cons_succ])
        refine anyW_take (i := 2) (v := (.int .i64 cr)) [5, 14] (some 20) rfl rfl rfl (by kernel_rfl) (by kernel_rfl) (by kernel_rfl) (by kernel_rfl) (by kernel_rfl) (fun _ _ _ h => h) ⟨Or.inl ⟨by rfl, fun w' hw => (by subst hw; go_simp)⟩, fun _ => rfl⟩ (Or.inr rfl) ?_; (try simp only [Act.put, List.setIfInBounds_toArray, List.set_cons_zero, List.set_cons_succ])
        refine anyW_take (i := 3) (v := (.pointer (some ⟨wr.heap.size, 2, none⟩))) [4, 5, 14] (some 21) rfl rfl rfl (by kernel_rfl) (by kernel_rfl) (by kernel_rfl) (by kernel_rfl) (by kernel_rfl) (fun _ _ _ h => h) ⟨Or.inl ⟨by rfl, fun w' hw => (by subst hw; go_simp)⟩, fun _ => rfl⟩ (Or.inr rfl) ?_; (try simp only [Act.put, List.setIfInBounds_toArray, List.set_cons_zero, List.set_cons_succ])
        refine anyW_take (i := 4) (v := (.int .i64 cz)) [5, 14] (some 22) rfl rfl rfl (by kernel_rfl) (by kernel_rfl) (by kernel_rfl) (by kernel_rfl) (by kernel_rfl) (fun _ _ _ h => h) ⟨Or.inl ⟨by rfl, fun w' hw => (by subst hw; go_simp)⟩, fun _ => rfl⟩ (Or.inr rfl) ?_; (try simp only [Act.put, List.setIfInBounds_toArray, List.set_cons_zero, List.set_cons_succ])
        refine anyW_take (i := 5) (v := (.agg #[.int .i64 cr, .int .i64 cz])) [14] (some 23) rfl rfl rfl (by kernel_rfl) (by kernel_rfl) (by kernel_rfl) (by kernel_rfl) (by kernel_rfl) (fun _ _ _ h => h) ⟨Or.inl ⟨by rfl, fun w' hw => (by subst hw; go_simp)⟩, fun _ => rfl⟩ (Or.inr rfl) ?_; (try simp only [Act.put, List.setIfInBounds_toArray, List.set_cons_zero, List.set_cons_succ])
        refine anyW_take (i := 6) (v := (.pointer (some ⟨wr.heap.size, 3, none⟩))) [7, 13, 14] (some 24) rfl rfl rfl (by kernel_rfl) (by kernel_rfl) (by kernel_rfl) (by kernel_rfl) (by kernel_rfl) (fun _ _ _ h => h) ⟨Or.inl ⟨by rfl, fun w' hw => (by subst hw; go_simp)⟩, fun _ => rfl⟩ (Or.inr rfl) ?_; (try simp only [Act.put, List.setIfInBounds_toArray, List.set_cons_zero, List.set_cons_succ])
        refine anyW_take (i := 7) (v := (.int .i64 ct)) [13, 14] (some 25) rfl rfl rfl (by kernel_rfl) (by kernel_rfl) (by kernel_rfl) (by kernel_rfl) (by kernel_rfl) (fun _ _ _ h => h) ⟨Or.inl ⟨by rfl, fun w' hw => (by subst hw; go_simp)⟩, fun _ => rfl⟩ (Or.inr rfl) ?_; (try simp only [Act.put, List.setIfInBounds_toArray, List.set_cons_zero, List.set_cons_succ])
        refine anyW_take (i := 8) (v := (.pointer (some ⟨tc, 0, none⟩))) [9, 11, 12, 13, 14] (some 26) rfl rfl rfl (by kernel_rfl) (by kernel_rfl) (by kernel_rfl) (by kernel_rfl) (by kernel_rfl) (fun _ _ _ h => h) ⟨Or.inl ⟨by rfl, fun w' hw => (by subst hw; go_simp)⟩, fun _ => rfl⟩ (Or.inr rfl) ?_; (try simp only [Act.put, List.setIfInBounds_toArray, List.set_cons_zero, List.set_cons_succ])
        refine anyW_take (i := 9) (v := (.slice (some ⟨b1, o1, none⟩) na qa)) [11, 12, 13, 14] (some 27) rfl rfl rfl (by kernel_rfl) (by kernel_rfl) (by kernel_rfl) (by kernel_rfl) (by kernel_rfl) (fun _ _ _ h => h) ⟨Or.inl ⟨by rfl, fun w' hw => (by subst hw; go_simp)⟩, fun _ => rfl⟩ (Or.inr rfl) ?_; (try simp only [Act.put, List.setIfInBounds_toArray, List.set_cons_zero, List.set_cons_succ])
        refine anyW_take (i := 10) (v := (.int .i64 k)) [11, 12, 13, 14] (some 28) rfl rfl rfl (by kernel_rfl) (by kernel_rfl) (by kernel_rfl) (by kernel_rfl) (by kernel_rfl) (fun _ _ _ h => h) ⟨Or.inl ⟨by rfl, fun w' hw => (by subst hw; go_simp)⟩, fun _ => rfl⟩ (Or.inr rfl) ?_; (try simp only [Act.put, List.setIfInBounds_toArray, List.set_cons_zero, List.set_cons_succ])
        refine anyW_take (i := 11) (v := (.pointer (some ⟨b1, o1 + k, none⟩))) [12, 13, 14] (some 29) rfl rfl rfl (by kernel_rfl) (by kernel_rfl) (by kernel_rfl) (by kernel_rfl) (by kernel_rfl) (fun _ _ _ h => h) ⟨Or.inl ⟨by rfl, fun w' hw => (by subst hw; go_simp)⟩, fun _ => rfl⟩ (Or.inr rfl) ?_; (try simp only [Act.put, List.setIfInBounds_toArray, List.set_cons_zero, List.set_cons_succ])
        refine anyW_take (i := 12) (v := (.int .i64 x)) [13, 14] (some 30) rfl rfl rfl (by kernel_rfl) (by kernel_rfl) (by kernel_rfl) (by kernel_rfl) (by kernel_rfl) (fun _ _ _ h => h) ⟨Or.inl ⟨by rfl, fun w' hw => (by subst hw; go_simp)⟩, fun _ => rfl⟩ (Or.inr rfl) ?_; (try simp only [Act.put, List.setIfInBounds_toArray, List.set_cons_zero, List.set_cons_succ])
        refine anyW_take (i := 13) (v := (.int .i64 (ct * x))) [14] (some 31) rfl rfl rfl (by kernel_rfl) (by kernel_rfl) (by kernel_rfl) (by kernel_rfl) (by kernel_rfl) (fun _ _ _ h => h) ⟨Or.inl ⟨by rfl, fun w' hw => (by subst hw; go_simp)⟩, fun _ => rfl⟩ (Or.inr rfl) ?_; (try simp only [Act.put, List.setIfInBounds_toArray, List.set_cons_zero, List.set_cons_succ])
        refine anyW_one (by kernel_rfl) rfl (by rfl) (fun K hK' => ?_); have hK := Lib.hid hK'; clear hK'; go_simp
        refine ⟨fun _ => (by omega), hR.mono ?_⟩
        clear hR hy
        rintro e W3 h3
        obtain ⟨bb, rfl, h4', h5'⟩ := bool_of h3
        have h4 := Lib.hid h4'
        have h5 := Lib.hid h5'
        clear h3 h4' h5'
        refine hK.out _ _ ?_; clear hK K; (try simp only [Act.put, List.setIfInBounds_toArray, List.set_cons_zero, List.set_cons_succ])
        refine anyIn_takeD (i := 15) (v := (.bool (!bb))) (some 33) rfl rfl rfl (by kernel_rfl) (by kernel_rfl) (by kernel_rfl) (fun _ _ _ h => h) ⟨Or.inl ⟨by rfl, fun w => (by go_simp)⟩, fun _ => rfl⟩ ?_; (try simp only [Act.put, List.setIfInBounds_toArray, List.set_cons_zero, List.set_cons_succ]); refine wpAnyIn_done (by kernel_rfl) ?_ _
        gi_wp2
        gi_meet
        exact ⟨bb, rfl, h4, h5⟩
      case rest =>
        obtain ⟨bb, rfl, h4, h5⟩ := hcut
        clear hR hy
        cases bb
        · have hJ5 := h5.out rfl
          clear h4 h5
          gi_wp2
          refine bodyPost_ret (results_none rfl _ _ _) rfl ?_
          exact ⟨⟨_, rfl⟩, .inr ⟨_, ⟨k + 1, by omega, HX.out.symm⟩, hJ5⟩⟩
        · obtain ⟨hJ3, hk3⟩ := h4.out rfl
          gi_wp2
          go_roundw
          case rel => exact ⟨k + 1, by omega, by go_num, by rw [HX.out]; exact hJ3, (hnx.t (KpF.of_below (by omega) (by omega) (by omega) hbW.drew)).t hk3, by have := hk3.1.size; have := hbW.size; have e9 : W1.drew.heap.size = W1.heap.size := rfl; omega⟩
          case measure => simp [intOf]; omega
    · obtain rfl : na = k := by omega
      have m2' := hnx.cell (.inl rfl) m2
      clear hlt hk
      gi_wp2
      clear m2'
      gi_loopw [38] (fun i wx => ∃ k : Nat, k ≤ nb ∧ i = .int .i64 k ∧ J (S.take (na + k)) wx ∧ KpF w0.heap.size tm tc W wx ∧ W.heap.size ≤ wx.heap.size) (fun i _ => nb - (intOf i).toNat)
      case atStart => exact ⟨0, Nat.zero_le _, rfl, hJs, hnx, hsz⟩
      case round =>
        clear hJs hnx hsz hB0
        obtain ⟨k, hk, rfl, hJs, hnx, hsz⟩ := hrel
        have hB0 := hw0.trans hnx.1
        by_cases hlt : k < nb
        · obtain ⟨hzl, hcl⟩ := HBb.out
          obtain ⟨b, o, rfl, hb0, hcl⟩ := hcl (by omega)
          obtain ⟨hzl1, hcl1⟩ := HB1.out
          obtain ⟨b1, o1, rfl, hb1, hcl1⟩ := hcl1 (by omega)
          obtain ⟨c, hc⟩ : ∃ c, ss[k]? = some c := ⟨_, List.getElem?_eq_getElem (by omega)⟩
          obtain ⟨x, hx⟩ : ∃ x, z2[k]? = some x := ⟨_, List.getElem?_eq_getElem (by omega)⟩
          have x0 : wr.cell? ⟨b, o + k * 4, none⟩ = some (.int .i64 c.r) := (hB0.cell (p := ⟨b, _, none⟩) hb0).trans (by have h := hcl k c hc 0 _ rfl; simpa using h)
          have x1 : wr.cell? ⟨b, o + k * 4 + 1, none⟩ = some (.int .i64 c.z) := (hB0.cell (p := ⟨b, _, none⟩) hb0).trans (by have h := hcl k c hc 1 _ rfl; simpa using h)
          have x2 : wr.cell? ⟨b, o + k * 4 + 2, none⟩ = some (.int .i64 c.self) := (hB0.cell (p := ⟨b, _, none⟩) hb0).trans (by have h := hcl k c hc 2 _ rfl; simpa using h)
          have x3 : wr.cell? ⟨b, o + k * 4 + 3, none⟩ = some (.int .i64 c.loss) := (hB0.cell (p := ⟨b, _, none⟩) hb0).trans (by have h := hcl k c hc 3 _ rfl; simpa using h)
          have y0 : wr.cell? ⟨b1, o1 + k, none⟩ = some (.int .i64 x) := (hB0.cell (p := ⟨b1, _, none⟩) hb1).trans (by have h := hcl1 k x hx 0 _ rfl; simpa using h)
          have k1' := hnx.cell (.inr rfl) k1
          have HX := Lib.hid (take_snoc (HS2.out k c x hc hx))
          have HYk := Lib.hid (fun W1 (hJ1 : J (S.take (na + k)) W1) => HYY.out _ ((c.r, c.z), x) W1 hJ1 (by rw [List.length_take]; omega))
          have szb := hB0.size
          clear hcl hcl1 hc hx hzl hzl1
          obtain ⟨cr, cz, cse, clo⟩ := c
          dsimp only at *
          gi_wp2
          have hbW : Below wr.heap.size wr (wr.alloc (.cells #[.int .i64 cr, .int .i64 cz, .int .i64 cse, .int .i64 clo] 168)) := by (repeat first | with_reducible exact Below.refl _ _ | (with_reducible refine Below.alloc ?_ ?_ _; rotate_left; exact (by omega)))
          have e1 : (wr.alloc (.cells #[.int .i64 cr, .int .i64 cz, .int .i64 cse, .int .i64 clo] 168)).cell? ⟨wr.heap.size, 0, none⟩ = some (.int .i64 cr) := by go_simp
          have e2 : (wr.alloc (.cells #[.int .i64 cr, .int .i64 cz, .int .i64 cse, .int .i64 clo] 168)).cell? ⟨wr.heap.size, 1, none⟩ = some (.int .i64 cz) := by go_simp
          have e0 : (wr.alloc (.cells #[.int .i64 cr, .int .i64 cz, .int .i64 cse, .int .i64 clo] 168)).cell? ⟨tc, 1, none⟩ = some (.slice (some ⟨b1, o1, none⟩) nb qb) := (hbW.cell (p := ⟨tc, 1, none⟩) (by dsimp only; omega)).trans k1'
          have ey : (wr.alloc (.cells #[.int .i64 cr, .int .i64 cz, .int .i64 cse, .int .i64 clo] 168)).cell? ⟨b1, o1 + k, none⟩ = some (.int .i64 x) := (hbW.cell (p := ⟨b1, o1 + k, none⟩) (by dsimp only; omega)).trans y0
          obtain ⟨W1, hW1⟩ : ∃ W1, wr.alloc (.cells #[.int .i64 cr, .int .i64 cz, .int .i64 cse, .int .i64 clo] 168) = W1 := ⟨_, rfl⟩
          rw [hW1] at hbW e1 e2 e0 ey ⊢
          clear hW1 x0 x1 x2 x3 y0 k1'
          obtain ⟨fn, tmps, assign, body, hy, hR⟩ := HYk.out W1.drew (HJ.out _ _ _ hJs hbW.drew)
          simp only [srcEnc] at hy
          clear HYk
          have hmx : Tryz.prog.follows .mixedOrders = true := by kernel_rfl
          gi_cut [55] from 74 (fun s55 wx => ∃ bb : Bool, s55 = .bool (!bb) ∧ Hid (bb = true → J (S.take (na + k) ++ [((cr, cz), x)]) wx ∧ KpF w0.heap.size tm tc W1.drew wx) ∧ Hid (bb = false → Jx (S.take (na + k) ++ [((cr, cz), x)]) wx))
          case first =>
            clear HP HJ HYY HS1 HS2 HS3 HA HBb HA1 HB1 HC HM HX hnx hw0 hB0 m1 m4 m5 m6 m7 m8 k0 k2 h0 hJs
            refine region_W 11 (by kernel_rfl) ?_
            refine anyW_take (i := 0) (v := (.func (.yield l) #[] #[])) [11] (some 43) rfl rfl rfl (by kernel_rfl) (by kernel_rfl) (by kernel_rfl) (by kernel_rfl) (by kernel_rfl) (fun _ _ _ h => h) ⟨Or.inl ⟨by rfl, fun w' hw => (by subst hw; go_simp)⟩, fun _ => rfl⟩ (Or.inr rfl) ?_; (try simp only [Act.put, List.setIfInBounds_toArray, List.set_cons_zero, List.set_cons_succ])
            refine anyW_take (i := 1) (v := (.pointer (some ⟨wr.heap.size, 0, none⟩))) [2, 5, 11] (some 44) rfl rfl rfl (by kernel_rfl) (by kernel_rfl) (by kernel_rfl) (by kernel_rfl) (by kernel_rfl) (fun _ _ _ h => h) ⟨Or.inl ⟨by rfl, fun w' hw => (by subst hw; go_simp)⟩, fun _ => rfl⟩ (Or.inr rfl) ?_; (try simp only [Act.put, List.setIfInBounds_toArray, List.set_cons_zero, List.set_cons_succ])
            refine anyW_take (i := 2) (v := (.int .i64 cr)) [5, 11] (some 45) rfl rfl rfl (by kernel_rfl) (by kernel_rfl) (by kernel_rfl) (by kernel_rfl) (by kernel_rfl) (fun _ _ _ h => h) ⟨Or.inl ⟨by rfl, fun w' hw => (by subst hw; go_simp)⟩, fun _ => rfl⟩ (Or.inr rfl) ?_; (try simp only [Act.put, List.setIfInBounds_toArray, List.set_cons_zero, List.set_cons_succ])
            refine anyW_take (i := 3) (v := (.pointer (some ⟨wr.heap.size, 1, none⟩))) [4, 5, 11] (some 46) rfl rfl rfl (by kernel_rfl) (by kernel_rfl) (by kernel_rfl) (by kernel_rfl) (by kernel_rfl) (fun _ _ _ h => h) ⟨Or.inl ⟨by rfl, fun w' hw => (by subst hw; go_simp)⟩, fun _ => rfl⟩ (Or.inr rfl) ?_; (try simp only [Act.put, List.setIfInBounds_toArray, List.set_cons_zero, List.set_cons_succ])
            refine anyW_take (i := 4) (v := (.int .i64 cz)) [5, 11] (some 47) rfl rfl rfl (by kernel_rfl) (by kernel_rfl) (by kernel_rfl) (by kernel_rfl) (by kernel_rfl) (fun _ _ _ h => h) ⟨Or.inl ⟨by rfl, fun w' hw => (by subst hw; go_simp)⟩, fun _ => rfl⟩ (Or.inr rfl) ?_; (try simp only [Act.put, List.setIfInBounds_toArray, List.set_cons_zero, List.set_cons_succ])
            refine anyW_take (i := 5) (v := (.agg #[.int .i64 cr, .int .i64 cz])) [11] (some 48) rfl rfl rfl (by kernel_rfl) (by kernel_rfl) (by kernel_rfl) (by kernel_rfl) (by kernel_rfl) (fun _ _ _ h => h) ⟨Or.inl ⟨by rfl, fun w' hw => (by subst hw; go_simp)⟩, fun _ => rfl⟩ (Or.inr rfl) ?_; (try simp only [Act.put, List.setIfInBounds_toArray, List.set_cons_zero, List.set_cons_succ])
            refine anyW_take (i := 6) (v := (.pointer (some ⟨tc, 1, none⟩))) [7, 9, 10, 11] (some 49) rfl rfl rfl (by kernel_rfl) (by kernel_rfl) (by kernel_rfl) (by kernel_rfl) (by kernel_rfl) (fun _ _ _ h => h) ⟨Or.inl ⟨by rfl, fun w' hw => (by subst hw; go_simp)⟩, fun _ => rfl⟩ (Or.inr rfl) ?_; (try simp only [Act.put, List.setIfInBounds_toArray, List.set_cons_zero, List.set_cons_succ])
            refine anyW_take (i := 7) (v := (.slice (some ⟨b1, o1, none⟩) nb qb)) [9, 10, 11] (some 50) rfl rfl rfl (by kernel_rfl) (by kernel_rfl) (by kernel_rfl) (by kernel_rfl) (by kernel_rfl) (fun _ _ _ h => h) ⟨Or.inl ⟨by rfl, fun w' hw => (by subst hw; go_simp)⟩, fun _ => rfl⟩ (Or.inr rfl) ?_; (try simp only [Act.put, List.setIfInBounds_toArray, List.set_cons_zero, List.set_cons_succ])
            refine anyW_take (i := 8) (v := (.int .i64 k)) [9, 10, 11] (some 51) rfl rfl rfl (by kernel_rfl) (by kernel_rfl) (by kernel_rfl) (by kernel_rfl) (by kernel_rfl) (fun _ _ _ h => h) ⟨Or.inl ⟨by rfl, fun w' hw => (by subst hw; go_simp)⟩, fun _ => rfl⟩ (Or.inr rfl) ?_; (try simp only [Act.put, List.setIfInBounds_toArray, List.set_cons_zero, List.set_cons_succ])
            refine anyW_take (i := 9) (v := (.pointer (some ⟨b1, o1 + k, none⟩))) [10, 11] (some 52) rfl rfl rfl (by kernel_rfl) (by kernel_rfl) (by kernel_rfl) (by kernel_rfl) (by kernel_rfl) (fun _ _ _ h => h) ⟨Or.inl ⟨by rfl, fun w' hw => (by subst hw; go_simp)⟩, fun _ => rfl⟩ (Or.inr rfl) ?_; (try simp only [Act.put, List.setIfInBounds_toArray, List.set_cons_zero, List.set_cons_succ])
            refine anyW_take (i := 10) (v := (.int .i64 x)) [11] (some 53) rfl rfl rfl (by kernel_rfl) (by kernel_rfl) (by kernel_rfl) (by kernel_rfl) (by kernel_rfl) (fun _ _ _ h => h) ⟨Or.inl ⟨by rfl, fun w' hw => (by subst hw; go_simp)⟩, fun _ => rfl⟩ (Or.inr rfl) ?_; (try simp only [Act.put, List.setIfInBounds_toArray, List.set_cons_zero, List.set_cons_succ])
            refine anyW_one (by kernel_rfl) rfl (by rfl) (fun K hK' => ?_); have hK := Lib.hid hK'; clear hK'; go_simp
            refine ⟨fun _ => (by omega), hR.mono ?_⟩
            clear hR hy
            rintro e W3 h3
            obtain ⟨bb, rfl, h4', h5'⟩ := bool_of h3
            have h4 := Lib.hid h4'
            have h5 := Lib.hid h5'
            clear h3 h4' h5'
            refine hK.out _ _ ?_; clear hK K; (try simp only [Act.put, List.setIfInBounds_toArray, List.set_cons_zero, List.set_cons_succ])
            refine anyIn_takeD (i := 12) (v := (.bool (!bb))) (some 55) rfl rfl rfl (by kernel_rfl) (by kernel_rfl) (by kernel_rfl) (fun _ _ _ h => h) ⟨Or.inl ⟨by rfl, fun w => (by go_simp)⟩, fun _ => rfl⟩ ?_; (try simp only [Act.put, List.setIfInBounds_toArray, List.set_cons_zero, List.set_cons_succ]); refine wpAnyIn_done (by kernel_rfl) ?_ _
            gi_wp2
            gi_meet
            exact ⟨bb, rfl, h4, h5⟩
          case rest =>
            obtain ⟨bb, rfl, h4, h5⟩ := hcut
            clear hR hy
            cases bb
            · have hJ5 := h5.out rfl
              clear h4 h5
              gi_wp2
              refine bodyPost_ret (results_none rfl _ _ _) rfl ?_
              exact ⟨⟨_, rfl⟩, .inr ⟨_, ⟨na + k + 1, by omega, HX.out.symm⟩, hJ5⟩⟩
            · obtain ⟨hJ3, hk3⟩ := h4.out rfl
              gi_wp2
              go_roundw
              case rel => exact ⟨k + 1, by omega, by go_num, by rw [← Nat.add_assoc, HX.out]; exact hJ3, (hnx.t (KpF.of_below (by omega) (by omega) (by omega) hbW.drew)).t hk3, by have := hk3.1.size; have := hbW.size; have e9 : W1.drew.heap.size = W1.heap.size := rfl; omega⟩
              case measure => simp [intOf]; omega
        · obtain rfl : nb = k := by omega
          have k2' := hnx.cell (.inr rfl) k2
          clear hlt hk
          gi_wp2
          clear k2'
          gi_loopw [60] (fun i wx => ∃ k : Nat, k ≤ len ∧ i = .int .i64 k ∧ J (S.take (na + (nb + k))) wx ∧ KpF w0.heap.size tm tc W wx ∧ W.heap.size ≤ wx.heap.size) (fun i _ => len - (intOf i).toNat)
          case atStart => exact ⟨0, Nat.zero_le _, rfl, hJs, hnx, hsz⟩
          case round =>
            clear hJs hnx hsz hB0
            obtain ⟨k, hk, rfl, hJs, hnx, hsz⟩ := hrel
            have hB0 := hw0.trans hnx.1
            by_cases hlt : k < len
            · obtain ⟨hzl, hcl⟩ := HC.out
              obtain ⟨b, o, rfl, hb0, hcl⟩ := hcl (by omega)
              obtain ⟨x, hx⟩ : ∃ x, z3[k]? = some x := ⟨_, List.getElem?_eq_getElem (by omega)⟩
              have x0 : wr.cell? ⟨b, o + k, none⟩ = some (.int .i64 x) := (hB0.cell (p := ⟨b, _, none⟩) hb0).trans (by have h := hcl k x hx 0 _ rfl; simpa using h)
              have y4 := hnx.cell (.inl rfl) m4
              have y5 := hnx.cell (.inl rfl) m5
              have y6 := hnx.cell (.inl rfl) m6
              have y7 := hnx.cell (.inl rfl) m7
              have y8 := hnx.cell (.inl rfl) m8
              have HX := Lib.hid (take_snoc (HS3.out k x hx))
              have HPk := Lib.hid (HP.out k hlt)
              have HYk := Lib.hid (fun W1 (hJ1 : J (S.take (na + (nb + k))) W1) => HYY.out _ ((cellR g (k : Int), cellZ g (k : Int)), x) W1 hJ1 (by rw [List.length_take]; omega))
              clear hcl hx hzl
              generalize cellR g (k : Int) = R at *
              generalize cellZ g (k : Int) = Z at *
              gi_wp2_with (refine ⟨fun _ => (by omega), ?_⟩; gi_at_call 159; refine (callsIn_wide.2 (HPk.out _)).mono ?_; rintro e w1 ⟨rfl, hb⟩; have hJ1 := HJ.out _ _ _ hJs hb; have hn1 := KpF.of_below (n₀ := w0.heap.size) (tm := tm) (tc := tc) (by have := hB0.size; omega) (by omega) (by omega) hb; have hs1 := hb.size; obtain ⟨fn, tmps, assign, body, hy, hR⟩ := HYk.out w1 hJ1; simp only [srcEnc] at hy)
              refine ⟨fun _ => (by omega), hR.mono ?_⟩
              clear hR hy
              rintro e W3 (⟨rfl, hJ3, hk3⟩ | ⟨rfl, hJx3⟩)
              · gi_wp2
                go_roundw
                case rel => exact ⟨k + 1, by omega, by go_num, by rw [← Nat.add_assoc nb, ← Nat.add_assoc, HX.out]; exact hJ3, (hnx.t hn1).t hk3, by have := hk3.1.size; omega⟩
                case measure => simp [intOf]; omega
              · gi_wp2
                refine bodyPost_ret (results_none rfl _ _ _) rfl ?_
                exact ⟨⟨_, rfl⟩, .inr ⟨_, ⟨na + (nb + k) + 1, by omega, HX.out.symm⟩, hJx3⟩⟩
            · obtain rfl : len = k := by omega
              have hJf := hJs
              rw [← hlen, List.take_length] at hJf
              clear hJs
              gi_wp2
              go_end0
              exact ⟨⟨_, rfl⟩, .inl ⟨_, rfl, hJf⟩⟩
end
end Go.Proofs.YtogcjgjhmlifgaaGreat
