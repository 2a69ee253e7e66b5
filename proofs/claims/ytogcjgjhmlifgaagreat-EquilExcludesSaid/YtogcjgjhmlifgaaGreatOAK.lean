import Derived.Test.YtogcjgjhmlifgaaGreatOAJ
import Derived.Laws.AppendOwn
import Derived.Deep.OwnRows
namespace Go.Proofs.YtogcjgjhmlifgaaGreat
set_option linter.unusedVariables false
set_option linter.unusedSimpArgs false
section
set_option autoImplicit false
open Go.RowKit
section
variable {P : Program} {e0 : Cfg} {U : Snaps} {l : Slots} {L : Boxes} {ops : Array Oper} {Q : Exit → Act → World → Prop} {rest : List Oper} {d : Nat}
variable {ty : TypeId} {pos : String} {af : Array Edge} {g : Option (Nat × Bool)} {dd : Option Nat}
theorem cells_one {v : Value} (h : v.oneCell' = true) : v.cells = [v].toArray := by cases v <;> first | rfl | (cases h)
theorem al_store1 {t b o i : Nat} {cs cs' : List Value} {v : Value} {L' : Boxes} {ox oy : Operand} (hx : E l ox = some (.pointer (some ⟨b, o, none⟩))) (hy : E l oy = some v) (hone : v.oneCell' = true) (hi : L[i]? = some (b, .cells cs))
    (hz : ∀ w, (sizeOf t).run P w = .ok 1 w) (hc : SetAt o v cs cs') (hL : SetAt i (b, .cells cs') L L') (hw : want ops l g = some true)
    (k : AL P ops Q e0 U l L' rest) : AL P ops Q e0 U l L (⟨none, .store t ox oy, ty, pos, af, g⟩ :: rest) := by
  have hlt : o < cs.length := hc.lt
  refine al_store (cs' := cs') hx hy (cells_one hone) hi hz rfl (by simpa using Nat.succ_le_of_lt hlt) (by simpa using hone) ?_ _ hL.eq hw k
  simp only [List.length_cons, List.length_nil]
  rw [hc.eq, List.set_eq_take_append_cons_drop, if_pos hlt]
  simp
theorem al_storeAll {t b i z : Nat} {cs vs : List Value} {L' : Boxes} {ox oy : Operand} (hx : E l ox = some (.pointer (some ⟨b, 0, none⟩))) (hy : E l oy = some (.agg vs.toArray)) (hi : L[i]? = some (b, .cells cs)) (hn : vs.length = cs.length)
    (hz : ∀ w, (sizeOf t).run P w = .ok z w) (hz' : vs.length = z) (hone : vs.all (fun v => v.oneCell') = true) (hL : SetAt i (b, .cells vs) L L') (hw : want ops l g = some true)
    (k : AL P ops Q e0 U l L' rest) : AL P ops Q e0 U l L (⟨none, .store t ox oy, ty, pos, af, g⟩ :: rest) := by
  refine al_store (cs' := vs) hx hy rfl hi hz hz' (by simp; omega) hone ?_ _ hL.eq hw k
  simp [hn]
theorem al_storeSub {t b i o z : Nat} {cs cs' vs : List Value} {L' : Boxes} {ox oy : Operand} (hx : E l ox = some (.pointer (some ⟨b, o, none⟩))) (hy : E l oy = some (.agg vs.toArray)) (hi : L[i]? = some (b, .cells cs))
    (hz : ∀ w, (sizeOf t).run P w = .ok z w) (hz' : vs.length = z) (hc : Spl o vs cs cs') (hone : vs.all (fun v => v.oneCell') = true) (hL : SetAt i (b, .cells cs') L L') (hw : want ops l g = some true)
    (k : AL P ops Q e0 U l L' rest) : AL P ops Q e0 U l L (⟨none, .store t ox oy, ty, pos, af, g⟩ :: rest) :=
  al_store (cs' := cs') hx hy rfl hi hz hz' (by have := hc.eq.2; simp; omega) hone hc.eq.1 _ hL.eq hw k
inductive RT (P : Program) (l : Slots) (L : Boxes) : List ResultVar → List Value → Prop
  | nil : RT P l L [] []
  | tmp {t : Nat} {v : Value} {rs : List ResultVar} {vs : List Value} (h : look l t = some v) (r : RT P l L rs vs) : RT P l L (.tmp t :: rs) (v :: vs)
  | cell {t ty b o i : Nat} {cs : List Value} {v : Value} {rs : List ResultVar} {vs : List Value} (h : look l t = some (.pointer (some ⟨b, o, none⟩))) (hi : L[i]? = some (b, .cells cs)) (hv : cs[o]? = some v) (hg : ∀ w, (isAgg ty).run P w = .ok false w) (r : RT P l L rs vs) : RT P l L (.cell t ty :: rs) (v :: vs)
  | agg {t ty b z i : Nat} {cs : List Value} {rs : List ResultVar} {vs : List Value} (h : look l t = some (.pointer (some ⟨b, 0, none⟩))) (hi : L[i]? = some (b, .cells cs)) (hg : ∀ w, (isAgg ty).run P w = .ok true w) (hz : ∀ w, (sizeOf ty).run P w = .ok z w) (hn : z = cs.length) (r : RT P l L rs vs) : RT P l L (.cell t ty :: rs) (.agg cs.toArray :: vs)
def fin : List Value → Value
  | [v] => v
  | vs => .tuple vs.toArray
def rv (tmps : Array Value) : ResultVar → Sem Value
  | .tmp t => pure (tmps.getD t undef)
  | .cell a t => do loadVar t (← asAddr (tmps.getD a undef))
theorem RT.run {rs : List ResultVar} {vs : List Value} (h : RT P l L rs vs) {a : Act} {w : World} (hf : Fr e0 l a) (hs : Sta e0 U L w) : (rs.mapM (rv a.tmps)).run P w = .ok vs w := by
  have gd : ∀ t v, look l t = some v → a.tmps.getD t undef = v := fun t v e => hf.ev (x := .tmp t) e
  induction h with
  | nil => simp
  | tmp h r ih => simp [rv, gd _ _ h, ih]
  | cell h hi hv hg r ih => simp [rv, gd _ _ h, asAddr, loadVar, hg, hs.cell hi hv, ih]
  | agg h hi hg hz hn r ih =>
    rename_i t ty b z i cs rs vs
    have hc := run_loadCells_list (P := P) (w := w) ⟨b, 0, none⟩ cs (fun j u hj => by
      rw [addr_add, Nat.zero_add]; exact hs.cell hi hj)
    simp [rv, gd _ _ h, asAddr, loadVar, hg, hz, hn, hc, ih]
theorem results_eq (fn : Func) (tmps : Array Value) (rs : List ResultVar) (h : fn.results = rs.toArray) (vs : List Value) (w : World) (hr : (rs.mapM (rv tmps)).run P w = .ok vs w) : (results fn tmps).run P w = .ok (fin vs) w := by
  have e : results fn tmps = (do let us ← rs.toArray.mapM (rv tmps); pure (if h : us.size = 1 then us[0] else .tuple us)) := by
    unfold results; rw [h]; rfl
  rw [e]
  have e2 : (rs.toArray.mapM (rv tmps)).run P w = .ok vs.toArray w := by
    rw [List.mapM_toArray]
    simp [hr]
  simp only [Sem.run_bind, e2, Result.andThen_ok]
  cases vs with
  | nil => rfl
  | cons v r =>
    cases r with
    | nil => rfl
    | cons u r => simp [fin]
inductive Fin1 : List Value → Value → Prop
  | one {v : Value} : Fin1 [v] v
  | two {a b : Value} {r : List Value} : Fin1 (a :: b :: r) (.tuple (a :: b :: r).toArray)
  | zero : Fin1 [] (.tuple #[])
theorem Fin1.eq {vs : List Value} {v : Value} (h : Fin1 vs v) : fin vs = v := by cases h <;> rfl
theorem retR {n : Nat} {w0 : World} {bs : List Nat} {fn : Func} {R : Ending → World → Prop} {rs : List ResultVar} {vs : List Value} {v : Value} (hr : fn.results = rs.toArray) (h : RT P l L rs vs) (hv : Fin1 vs v) (k : ∀ w, Sta ⟨n, [], w0, bs⟩ U L w → R (.returned v) w) : AQ ⟨n, [], w0, bs⟩ U l L (bodyPost P fn R .ret) := fun a w hf hs =>
  bodyPost_ret (results_eq fn a.tmps rs hr vs w (h.run hf hs)) hf.defers (by rw [hv.eq]; exact k w hs)
theorem cells_agg (cs : Array Value) : (Value.agg cs).cells = cs := rfl
inductive EsP (l : Slots) : List (Nat × Operand) → List (Nat × Value) → Prop
  | nil : EsP l [] []
  | cons {i : Nat} {x : Operand} {v : Value} {xs : List (Nat × Operand)} {vs : List (Nat × Value)} (h : E l x = some v) (t : EsP l xs vs) : EsP l ((i, x) :: xs) ((i, v) :: vs)
theorem EsP.map {a : Act} (hf : Fr e0 l a) {xs : List (Nat × Operand)} {vs : List (Nat × Value)} (h : EsP l xs vs) : xs.map (fun p => (p.1, a.eval p.2)) = vs := by
  induction h with
  | nil => rfl
  | cons hx _ ih => simp [hf.ev hx, ih]
theorem q_build {t : TypeId} {v : Value} {ps : List (Nat × Operand)} {vs : List (Nat × Value)} (h : EsP l ps vs) (hb : ∀ w, (Instr.build t vs.toArray).run P w = .ok v w) : Q1 P e0 U l L ⟨dd, .build t ps.toArray, ty, pos, af, g⟩ v := by
  intro a w hf hs
  have e : ps.toArray.map (fun (i, x) => (i, a.eval x)) = vs.toArray := Array.ext' (by simpa using h.map hf)
  simp [execOp, e, hb]
theorem r_buildSlice {t e len : Nat} {cs : List Value} {ps : List (Nat × Operand)} {vs : List (Nat × Value)} (h : EsP l ps vs) (hb : ∀ w, (Instr.buildSlice t len vs.toArray).run P w = .ok (.slice (some ⟨w.heap.size, 0, none⟩) len len) (w.alloc (.cells cs.toArray e))) (a : Act) (w : World) (hf : Fr e0 l a) (hs : Sta e0 U L w) :
    (execOp a.eval ⟨dd, .buildSlice t len ps.toArray, ty, pos, af, g⟩).run P w = .ok (.value (.slice (some ⟨w.heap.size, 0, none⟩) len len)) (w.alloc (.cells cs.toArray e)) := by
  have e : ps.toArray.map (fun (i, x) => (i, a.eval x)) = vs.toArray := Array.ext' (by simpa using h.map hf)
  simp [execOp, e, hb]
def lastOk (ops : Array Oper) (last : Nat) : Bool :=
  Nat.ble ops.size last || Nat.beq (last + 1) ops.size && (List.range last).all fun k => (List.range ops.size).any fun m => Nat.blt k m && match ops[m]? with
    | some o => o.after.any fun e => Region.binds .any e && Nat.beq e.on k
    | none => false
def DrawnTo (ops : Array Oper) (listed : Array Bool) : Prop := ∀ (j : Nat) (o : Oper), ops[j]? = some o → listed.getD j false = true → ∀ e ∈ o.after, Region.binds .any e = true → listed.getD e.on false = true
theorem DrawnTo.start (ops : Array Oper) (n : Nat) : DrawnTo ops (Array.replicate n false) := fun j o _ h => by
  simp [Array.getD_eq_getD_getElem?, Array.getElem?_replicate] at h
  split at h <;> simp at h
theorem DrawnTo.step {ops : Array Oper} {listed : Array Bool} (h : DrawnTo ops listed) {i : Nat} (hi : i ∈ Region.ready .any ops listed) : DrawnTo ops (listed.setIfInBounds i true) := fun j o ho hj e he hb => by
  by_cases hij : i = j
  · subst hij
    obtain ⟨-, o', ho', hall⟩ := mem_ready.1 hi
    rw [ho] at ho'
    obtain rfl := Option.some.inj ho'
    exact getD_set_true (hall e he hb)
  · rw [getD_set_ne false hij] at hj
    exact getD_set_true (h j o ho hj e he hb)
theorem last_all {ops : Array Oper} {last : Nat} {listed : Array Bool} (hok : lastOk ops last = true) (hc : DrawnTo ops listed) (hl : last ∈ Region.ready .any ops listed) : ∀ (n k : Nat), k < last → last - k ≤ n → listed.getD k false = true := by
  obtain ⟨-, ol, hol, hall⟩ := mem_ready.1 hl
  have hsz : last < ops.size := (Array.getElem?_eq_some_iff.1 hol).1
  have hok' : last + 1 = ops.size ∧ ∀ k, k < last → ∃ m o, k < m ∧ ops[m]? = some o ∧ ∃ e ∈ o.after, Region.binds .any e = true ∧ e.on = k := by
    have h1 : Nat.ble ops.size last = false := by rw [Bool.eq_false_iff]; simpa using hsz
    simp only [lastOk, h1, Bool.false_or, Bool.and_eq_true, List.all_eq_true, List.any_eq_true, List.mem_range] at hok
    refine ⟨by simpa using hok.1, fun k hk => ?_⟩
    obtain ⟨m, -, hm, h2⟩ := hok.2 k hk
    cases ho : ops[m]? with
    | none => simp [ho] at h2
    | some o =>
      simp only [ho] at h2
      obtain ⟨e, he, hb⟩ := Array.any_eq_true'.1 h2
      simp only [Bool.and_eq_true] at hb
      exact ⟨m, o, by simpa using hm, ho, e, he, hb.1, by simpa using hb.2⟩
  intro n
  induction n with
  | zero => intro k hk hn; omega
  | succ n ih =>
    intro k hk hn
    obtain ⟨m, o, hkm, ho, e, he, hb, rfl⟩ := hok'.2 k hk
    by_cases hml : m = last
    · subst hml
      rw [hol] at ho
      obtain rfl := Option.some.inj ho
      exact hall e he hb
    · have hms : m < ops.size := (Array.getElem?_eq_some_iff.1 ho).1
      exact hc m o ho (ih m (by omega) (by omega)) e he hb
def wpAnyG (P : Program) (ops : Array Oper) (Q : Exit → Act → World → Prop) (S : World → Prop) (last : Nat) : Nat → Array Bool → Act → World → Prop
  | 0, listed, a, w => Region.ready .any ops listed = [] ∧ Q .normal a w
  | fuel + 1, listed, a, w => (Region.ready .any ops listed = [] → Q .normal a w) ∧ ∀ i ∈ Region.ready .any ops listed, wpOp P ops Q i (fun a' w' => (i ≠ last → S w') ∧ wpAnyG P ops Q S last fuel (listed.setIfInBounds i true) a' w') a w
theorem wpAny_of_G {S : World → Prop} {last : Nat} : ∀ (fuel : Nat) (listed : Array Bool) (a : Act) (w : World), wpAnyG P ops Q S last fuel listed a w → wpAny P .any ops Q fuel listed a w
  | 0, _, _, _, h => h
  | fuel + 1, _, _, _, h => ⟨h.1, fun i hi => wpOp_mono (fun a' w' h' => wpAny_of_G fuel _ a' w' h'.2) (h.2 i hi)⟩
theorem wpAnyG_first {S : World → Prop} {last i : Nat} {oi : Oper} {v : Value} (hok : lastOk ops last = true) (hi : ops[i]? = some oi) (hsel : ∀ (j : Nat) (o : Oper) cs b, ops[j]? = some o → o.op ≠ .select cs b) (hQ : ∀ c a w, Q (.panic c) (a.put oi.dst v) w → Q (.panic c) a w) :
    ∀ (fuel : Nat) (listed : Array Bool) (a : Act) (w : World), DrawnTo ops listed →
      (∀ j oj, ops[j]? = some oj → j ≠ i → listed.getD j true = false → (∀ e ∈ oj.after, Region.binds .any e = true → e.on ≠ i) → oi.apart ops oj = true) →
      i ∈ Region.ready .any ops listed → YieldsIf P ops S oi v a → S w → wpAnyG P ops Q S last fuel (listed.setIfInBounds i true) (a.put oi.dst v) w → wpAnyG P ops Q S last (fuel + 1) listed a w := by
  intro fuel
  induction fuel with
  | zero =>
    intro listed a w hc _ hr hy hS H
    refine ⟨fun h => (by rw [h] at hr; cases hr), fun j hj => ?_⟩
    by_cases hji : j = i
    · subst hji; exact hy.wpOp hi hS ⟨fun _ => hS, H⟩
    · have h := ready_mono hj hji
      rw [H.1] at h
      cases h
  | succ fuel ih =>
    intro listed a w hc hfree hr hy hS H
    refine ⟨fun h => (by rw [h] at hr; cases hr), fun j hj => ?_⟩
    by_cases hji : j = i
    · subst hji; exact hy.wpOp hi hS ⟨fun _ => hS, H⟩
    · have hiun := (mem_ready.1 hr).1
      have hil : listed.getD i false = false := by
        by_cases hsz : i < listed.size
        · simp [hsz] at hiun ⊢; exact hiun
        · simp [Array.getD_eq_getD_getElem?, Array.getElem?_eq_none (Nat.le_of_not_lt hsz)]
      have hjl : j ≠ last := fun e => by
        subst e
        have hsz : i < ops.size := (Array.getElem?_eq_some_iff.1 hi).1
        have hjz : j < ops.size := by obtain ⟨-, o, ho, -⟩ := mem_ready.1 hj; exact (Array.getElem?_eq_some_iff.1 ho).1
        have h1 : j + 1 = ops.size := by
          have h1 : Nat.ble ops.size j = false := by rw [Bool.eq_false_iff]; simpa using hjz
          simp only [lastOk, h1, Bool.false_or, Bool.and_eq_true] at hok
          simpa using hok.1
        rw [last_all hok hc hj _ i (by omega) (Nat.le_refl _)] at hil
        cases hil
      have h1 := H.2 j (ready_mono hj hji)
      obtain ⟨hjun, oj, hoj, hall⟩ := mem_ready.1 hj
      have hnot : ∀ e ∈ oj.after, Region.binds .any e = true → e.on ≠ i := fun e he hb heq => by
        have h1 := hall e he hb
        rw [heq, hil] at h1
        cases h1
      have h2 := wpOp_putIf hoj (hfree j oj hoj hji hjun hnot) (fun cs b => hsel i oi cs b hi) (fun cs b => hsel j oj cs b hoj) hQ hy h1
      have hfree' : ∀ k ok, ops[k]? = some ok → k ≠ i → (listed.setIfInBounds j true).getD k true = false → (∀ e ∈ ok.after, Region.binds .any e = true → e.on ≠ i) → oi.apart ops ok = true := fun k ok hk hki hun hno => by
        refine hfree k ok hk hki ?_ hno
        by_cases hjk : j = k
        · subst hjk; exact hjun
        · rw [getD_set_ne true hjk] at hun; exact hun
      refine wpOp_mono (fun a' w' h3 => ⟨h3.2.1, ih (listed.setIfInBounds j true) a' w' (hc.step hj) hfree' (ready_mono hr (Ne.symm hji)) h3.1 (h3.2.1 hjl) ?_⟩) h2
      rw [Array.setIfInBounds_comm _ _ hji]
      exact h3.2.2
def AH (P : Program) (ops : Array Oper) (Q : Exit → Act → World → Prop) (U0 : Snaps) (L0 : Boxes) (last fuel : Nat) (listed : Array Bool) (e0 : Cfg) (U : Snaps) (l : Slots) (L : Boxes) : Prop :=
  lastOk ops last = true → DrawnTo ops listed → AQ e0 U l L (fun a w => wpAnyG P ops Q (Sta e0 U0 L0) last fuel listed a w)
theorem ac_draw {id : Nat} {os : List Oper} (last : Nat) (hm : P.follows .mixedOrders = true) (hok : lastOk os.toArray last = true) (k : AH P os.toArray Q U L last os.toArray.size (Array.replicate os.toArray.size false) e0 U l L) : AC P e0 U l L (.region id os.toArray true) Q :=
  fun a w hf hs => wp_region_any hm (wpAny_of_G _ _ _ _ (k hok (DrawnTo.start _ _) a _ hf hs.drew))
theorem ah_take {U0 : Snaps} {L0 : Boxes} {last fuel : Nat} {listed : Array Bool} {o : Oper} {v : Value} (i : Nat) (hw0 : ∀ w, Sta e0 U L w → Sta e0 U0 L0 w) (hi : ops[i]? = some o) (hd : o.dst = some d) (hn : Nat.blt d e0.n = true)
    (hs : Region.noSelect ops = true) (hf : Region.free .any ops listed i = true) (hr : (Region.ready .any ops listed).contains i = true)
    (hQ : ∀ c a w, Q (.panic c) (a.put (some d) v) w → Q (.panic c) a w) (hw : want ops l o.guard = some true) (q : Q1 P e0 U0 l L0 o v)
    (k : AH P ops Q U0 L0 last fuel (listed.setIfInBounds i true) e0 U ((d, v) :: l) L) : AH P ops Q U0 L0 last (fuel + 1) listed e0 U l L := by
  intro hok hc a w hfr hst
  have h0 := hw0 w hst
  have hr' : i ∈ Region.ready .any ops listed := by simpa using hr
  refine wpAnyG_first hok hi (Region.noSelect_spec hs) (by rw [hd]; exact hQ) fuel listed a w hc (Region.free_spec hi hf) hr' (Or.inl ⟨want_ok hfr hw, fun w' hs' => q a w' hfr hs'⟩) h0 ?_
  rw [hd]
  exact k hok (hc.step hr') _ _ (hfr.put hn v) hst
theorem ah_skip {U0 : Snaps} {L0 : Boxes} {last fuel : Nat} {listed : Array Bool} {o : Oper} (i : Nat) (hw0 : ∀ w, Sta e0 U L w → Sta e0 U0 L0 w) (hi : ops[i]? = some o) (hd : o.dst = some d) (hn : Nat.blt d e0.n = true)
    (hs : Region.noSelect ops = true) (hf : Region.free .any ops listed i = true) (hr : (Region.ready .any ops listed).contains i = true)
    (hQ : ∀ c a w, Q (.panic c) (a.put (some d) undef) w → Q (.panic c) a w) (hw : want ops l o.guard = some false)
    (k : AH P ops Q U0 L0 last fuel (listed.setIfInBounds i true) e0 U ((d, undef) :: l) L) : AH P ops Q U0 L0 last (fuel + 1) listed e0 U l L := by
  intro hok hc a w hfr hst
  have h0 := hw0 w hst
  have hr' : i ∈ Region.ready .any ops listed := by simpa using hr
  refine wpAnyG_first hok hi (Region.noSelect_spec hs) (by rw [hd]; exact hQ) fuel listed a w hc (Region.free_spec hi hf) hr' (Or.inr ⟨want_ok hfr hw, rfl⟩) h0 ?_
  rw [hd]
  exact k hok (hc.step hr') _ _ (hfr.put hn undef) hst
theorem and_three {a b c : Bool} (h : (a && b && c) = true) : a = true ∧ b = true ∧ c = true := by cases a <;> cases b <;> cases c <;> simp_all
theorem ah_t {U0 : Snaps} {L0 : Boxes} {last fuel : Nat} {listed : Array Bool} {o : Oper} {v : Value} (i : Nat) (hw0 : ∀ w, Sta e0 U L w → Sta e0 U0 L0 w) (hi : ops[i]? = some o) (hd : o.dst = some d)
    (hb : (Region.noSelect ops && Region.free .any ops listed i && (Region.ready .any ops listed).contains i) = true) (q : Q1 P e0 U0 l L0 o v)
    (k : AH P ops Q U0 L0 last fuel (listed.setIfInBounds i true) e0 U ((d, v) :: l) L) (hn : Nat.blt d e0.n = true := by rfl) (hQ : ∀ c a w, Q (.panic c) (a.put (some d) v) w → Q (.panic c) a w := by exact fun _ _ _ h => h) (hw : want ops l o.guard = some true := by rfl) : AH P ops Q U0 L0 last (fuel + 1) listed e0 U l L :=
  ah_take i hw0 hi hd hn (and_three hb).1 (and_three hb).2.1 (and_three hb).2.2 hQ hw q k
theorem ah_s {U0 : Snaps} {L0 : Boxes} {last fuel : Nat} {listed : Array Bool} {o : Oper} (i : Nat) (hw0 : ∀ w, Sta e0 U L w → Sta e0 U0 L0 w) (hi : ops[i]? = some o) (hd : o.dst = some d)
    (hb : (Region.noSelect ops && Region.free .any ops listed i && (Region.ready .any ops listed).contains i) = true)
    (k : AH P ops Q U0 L0 last fuel (listed.setIfInBounds i true) e0 U ((d, undef) :: l) L) (hn : Nat.blt d e0.n = true := by rfl) (hQ : ∀ c a w, Q (.panic c) (a.put (some d) undef) w → Q (.panic c) a w := by exact fun _ _ _ h => h) (hw : want ops l o.guard = some false := by rfl) : AH P ops Q U0 L0 last (fuel + 1) listed e0 U l L :=
  ah_skip i hw0 hi hd hn (and_three hb).1 (and_three hb).2.1 (and_three hb).2.2 hQ hw k
theorem wpOp_of_list {i : Nat} {o : Oper} {K : Act → World → Prop} {a : Act} {w : World} (hi : ops[i]? = some o) (h : wpList P ops (Exit.then K Q) [o] a w) : wpOp P ops Q i K a w := by
  unfold wpOp
  rw [hi]
  unfold wpList at h
  dsimp only
  split
  · rename_i hw
    rw [if_pos hw] at h
    refine h.imp (fun h => ?_) (fun h => ⟨h.1, h.2⟩)
    unfold Oper.wp at h ⊢
    generalize (execOp a.eval o).run P w = r at *
    cases r with
    | ok m w' =>
      cases m <;> simp only [Oper.upon] at h ⊢ <;>
        first
          | exact h
          | exact Calls.mono h (fun e w'' he => by cases e <;> exact he)
          | exact Rows.mono h (fun _ _ he => he)
    | halt x w' => cases x <;> simp only [Oper.upon] at h ⊢ <;> exact h
  · rename_i hw
    rw [if_neg hw] at h
    exact h
def KH (P : Program) (ops : Array Oper) (Q : Exit → Act → World → Prop) (e0 : Cfg) (U0 : Snaps) (L0 : Boxes) (last fuel i : Nat) (listed : Array Bool) : Act → World → Prop :=
  fun a w => (i ≠ last → Sta e0 U0 L0 w) ∧ wpAnyG P ops Q (Sta e0 U0 L0) last fuel (listed.setIfInBounds i true) a w
theorem ah_one {U0 : Snaps} {L0 : Boxes} {last fuel : Nat} {listed : Array Bool} {o : Oper} (i : Nat) (hi : ops[i]? = some o) (hr : Region.ready .any ops listed = [i])
    (k : lastOk ops last = true → DrawnTo ops (listed.setIfInBounds i true) → AL P ops (Exit.then (KH P ops Q e0 U0 L0 last fuel i listed) Q) e0 U l L [o]) : AH P ops Q U0 L0 last (fuel + 1) listed e0 U l L := by
  intro hok hc a w hfr hst
  refine ⟨fun h => (by rw [hr] at h; cases h), fun j hj => ?_⟩
  have hj' := hj
  rw [hr] at hj
  obtain rfl : j = i := by simpa using hj
  exact wpOp_of_list hi (k hok (hc.step hj') a w hfr hst)
theorem ah_two {U0 : Snaps} {L0 : Boxes} {last fuel : Nat} {listed : Array Bool} {o o' : Oper} (i i' : Nat) (hi : ops[i]? = some o) (hi' : ops[i']? = some o') (hr : Region.ready .any ops listed = [i, i'])
    (k : lastOk ops last = true → DrawnTo ops (listed.setIfInBounds i true) → AL P ops (Exit.then (KH P ops Q e0 U0 L0 last fuel i listed) Q) e0 U l L [o]) (k' : lastOk ops last = true → DrawnTo ops (listed.setIfInBounds i' true) → AL P ops (Exit.then (KH P ops Q e0 U0 L0 last fuel i' listed) Q) e0 U l L [o']) : AH P ops Q U0 L0 last (fuel + 1) listed e0 U l L := by
  intro hok hc a w hfr hst
  refine ⟨fun h => (by rw [hr] at h; cases h), fun j hj => ?_⟩
  have hj' := hj
  rw [hr] at hj
  rcases List.mem_cons.1 hj with rfl | hj
  · exact wpOp_of_list hi (k hok (hc.step hj') a w hfr hst)
  · obtain rfl : j = i' := by simpa using hj
    exact wpOp_of_list hi' (k' hok (hc.step hj') a w hfr hst)
theorem ah_split {U0 : Snaps} {L0 : Boxes} {last fuel : Nat} {listed : Array Bool} (d : Nat) {b : Bool} (hs : look l d = some (.bool b)) (kt : b = true → AH P ops Q U0 L0 last fuel listed e0 U ((d, .bool true) :: l) L) (kf : b = false → AH P ops Q U0 L0 last fuel listed e0 U ((d, .bool false) :: l) L) : AH P ops Q U0 L0 last fuel listed e0 U l L :=
  fun hok hc => aq_split d hs (fun h => kt h hok hc) (fun h => kf h hok hc)
theorem ah_back {U0 : Snaps} {L0 : Boxes} {last fuel i : Nat} {listed : Array Bool} (hok : lastOk ops last = true) (hc : DrawnTo ops (listed.setIfInBounds i true)) (h0 : ∀ w, Sta e0 U L w → Sta e0 U0 L0 w) (k : AH P ops Q U0 L0 last fuel (listed.setIfInBounds i true) e0 U l L) : AQ e0 U l L (Exit.then (KH P ops Q e0 U0 L0 last fuel i listed) Q .normal) :=
  fun a w hfr hst => ⟨fun _ => h0 w hst, k hok hc a w hfr hst⟩
theorem ah_last {U0 : Snaps} {L0 : Boxes} {last fuel : Nat} {listed : Array Bool} (hr : Region.ready .any ops (listed.setIfInBounds last true) = []) (k : AQ e0 U l L (Q .normal)) : AQ e0 U l L (Exit.then (KH P ops Q e0 U0 L0 last fuel last listed) Q .normal) := by
  intro a w hfr hst
  refine ⟨fun h => absurd rfl h, ?_⟩
  cases fuel with
  | zero => exact ⟨hr, k a w hfr hst⟩
  | succ n => exact ⟨fun _ => k a w hfr hst, by rw [hr]; simp⟩
theorem ah_done {U0 : Snaps} {L0 : Boxes} {last fuel : Nat} {listed : Array Bool} (hr : Region.ready .any ops listed = []) (k : AQ e0 U l L (Q .normal)) : AH P ops Q U0 L0 last fuel listed e0 U l L := by
  intro hok hc a w hfr hst
  cases fuel with
  | zero => exact ⟨hr, k a w hfr hst⟩
  | succ n => exact ⟨fun _ => k a w hfr hst, by rw [hr]; simp⟩
end
end
section
set_option autoImplicit false
open Go.RowKit
section
variable {P : Program} {e0 : Cfg} {U : Snaps} {l : Slots} {L : Boxes} {ops : Array Oper} {Q : Exit → Act → World → Prop} {rest : List Oper} {d : Nat} {v : Value}
variable {ty : TypeId} {pos : String} {af : Array Edge} {g : Option (Nat × Bool)} {dd : Option Nat}
def Inl (P : Program) (ops : Array Oper) (Q : Exit → Act → World → Prop) (e0 : Cfg) (l : Slots) (d : Nat) (rest : List Oper) : Ending → World → Prop :=
  fun e w => ∃ v U' L', e = .returned v ∧ Sta e0 U' L' w ∧ AL P ops Q e0 U' ((d, v) :: l) L' rest
theorem Sta.env {n m : Nat} {D D' : List Deferred} {w0 : World} {bs : List Nat} {w : World} (h : Sta ⟨n, D, w0, bs⟩ U L w) : Sta ⟨m, D', w0, bs⟩ U L w := ⟨h.chg, h.box, h.apart, h.snap⟩
theorem al_inl {n : Nat} {D : List Deferred} {w0 : World} {bs : List Nat} {f : FuncId} {fn : Func} {c : Code} {xs : List Operand} {vs : List Value} {ats : Array TypeId} (hcall : ∀ (args : Array Value) (w : World), (callFunc f args).run P w = .ok (.enter f args) w) (hxs : Es l xs vs)
    (hn : Nat.blt d n = true) (hw : want ops l g = some true) (hf : P.funcs[f]? = some fn) (hb : fn.body = some c) (hlen : Nat.ble vs.length fn.ntmps = true)
    (k : AC P ⟨fn.ntmps, [], w0, bs⟩ U (num 0 vs) L c (bodyPost P fn (Inl P ops Q ⟨n, D, w0, bs⟩ l d rest))) :
    AL P ops Q ⟨n, D, w0, bs⟩ U l L (⟨some d, .call ⟨.value (.func f), xs.toArray, ats⟩, ty, pos, af, g⟩ :: rest) := by
  intro a w hfr hs
  unfold wpList
  rw [if_pos (want_ok hfr hw)]
  refine Or.inl ?_
  unfold Oper.wp
  have hargs : xs.toArray.map a.eval = vs.toArray := Array.ext' (by simp [Es.map hfr hxs])
  have hrun : (execOp a.eval ⟨some d, .call ⟨.value (.func f), xs.toArray, ats⟩, ty, pos, af, g⟩).run P w = .ok (.enter f vs.toArray) w := by
    have hfn : a.eval (.func f) = .func (.func f) #[] #[] := rfl
    simp only [execOp, resolve, hargs, hfn, Deferred.ofValue]
    simp [invoke, hcall]
  rw [hrun, Oper.upon_enter]
  refine Calls.mono (calls_of_wp hf hb (k _ w (Fr.start fn.ntmps w0 bs vs hlen) hs.env)) ?_
  rintro e w' ⟨v, U', L', rfl, hs', hk⟩
  exact hk _ _ (hfr.put hn v) hs'
theorem al_inlV {n : Nat} {D : List Deferred} {w0 : World} {bs : List Nat} {f : FuncId} {fn : Func} {c : Code} {of : Operand} {fi ca : List Value} {xs : List Operand} {vs : List Value} {ats : Array TypeId} (hof : E l of = some (.func (.func f) fi.toArray ca.toArray)) (hcall : ∀ (args : Array Value) (w : World), (callFunc f args).run P w = .ok (.enter f args) w) (hxs : Es l xs vs)
    (hn : Nat.blt d n = true) (hw : want ops l g = some true) (hf : P.funcs[f]? = some fn) (hb : fn.body = some c) (hlen : Nat.ble (fi ++ vs ++ ca).length fn.ntmps = true)
    (k : AC P ⟨fn.ntmps, [], w0, bs⟩ U (num 0 (fi ++ vs ++ ca)) L c (bodyPost P fn (Inl P ops Q ⟨n, D, w0, bs⟩ l d rest))) :
    AL P ops Q ⟨n, D, w0, bs⟩ U l L (⟨some d, .call ⟨.value of, xs.toArray, ats⟩, ty, pos, af, g⟩ :: rest) := by
  intro a w hfr hs
  unfold wpList
  rw [if_pos (want_ok hfr hw)]
  refine Or.inl ?_
  unfold Oper.wp
  have hargs : xs.toArray.map a.eval = vs.toArray := Array.ext' (by simp [Es.map hfr hxs])
  have hrun : (execOp a.eval ⟨some d, .call ⟨.value of, xs.toArray, ats⟩, ty, pos, af, g⟩).run P w = .ok (.enter f (fi ++ vs ++ ca).toArray) w := by
    simp only [execOp, resolve, hargs, hfr.ev hof, Deferred.ofValue]
    simp [invoke, hcall]
  rw [hrun, Oper.upon_enter]
  refine Calls.mono (calls_of_wp hf hb (k _ w (Fr.start fn.ntmps w0 bs _ hlen) hs.env)) ?_
  rintro e w' ⟨v, U', L', rfl, hs', hk⟩
  exact hk _ _ (hfr.put hn v) hs'
theorem retI {n m : Nat} {D : List Deferred} {w0 : World} {bs : List Nat} {fn : Func} {lc : Slots} {rs : List ResultVar} {vs : List Value} (hr : fn.results = rs.toArray) (h : RT P lc L rs vs) (hv : Fin1 vs v)
    (k : AL P ops Q ⟨m, D, w0, bs⟩ U ((d, v) :: l) L rest) : AQ ⟨n, [], w0, bs⟩ U lc L (bodyPost P fn (Inl P ops Q ⟨m, D, w0, bs⟩ l d rest) .ret) :=
  retR hr h hv (fun w hs => ⟨_, _, _, rfl, hs.env, k⟩)
def LoopIn (P : Program) (c : Code) (Q : Exit → Act → World → Prop) (a : Act) (w : World) : Prop :=
  ∀ (b : Frame) (k : List Item) (cs : List Frame), ∃ e a' w', Q e a' w' ∧ Arrives P (lone (b.at a (.code c :: .inLoop c :: k)) cs w) b k cs e a' w'
theorem loop_in {c : Code} {a : Act} {w : World} (h : c.wp P (Exit.then (LoopIn P c Q) Q) a w) : LoopIn P c Q a w := by
  intro b k cs
  obtain ⟨e, a₁, w₁, hq, harr⟩ := h b (.inLoop c :: k) cs
  cases e with
  | normal =>
    obtain ⟨e₂, a₂, w₂, hq₂, harr₂⟩ := hq b k cs
    exact ⟨e₂, a₂, w₂, hq₂, .of_steps (Steps.trans harr (.one step_inLoop)) harr₂⟩
  | exit id => exact ⟨_, a₁, w₁, hq, .pass (x := .inLoop c) rfl (fun _ _ => .inl (by simp)) harr⟩
  | goto l => exact ⟨_, a₁, w₁, hq, .pass (x := .inLoop c) rfl (fun _ _ => .inl (by simp)) harr⟩
  | ret => exact ⟨_, a₁, w₁, hq, .pass (x := .inLoop c) rfl (fun _ _ => .inl (by simp)) harr⟩
  | panic ch => exact ⟨_, a₁, w₁, hq, .pass (x := .inLoop c) rfl (fun _ _ => .inl (by simp)) harr⟩
  | outgrown => exact ⟨_, a₁, w₁, hq, .pass (x := .inLoop c) rfl (fun _ _ => .inl (by simp)) harr⟩
theorem ac_loop1 {c : Code} (k : AC P e0 U l L c (Exit.then (LoopIn P c Q) Q)) : AC P e0 U l L (.loop c) Q := fun a w hf hs b kk cs => by
  obtain ⟨e, a', w', hq, harr⟩ := loop_in (k a w hf hs) b kk cs
  exact ⟨e, a', w', hq, .of_steps (.one step_loop) harr⟩
theorem aq_again {c : Code} (k : AC P e0 U l L c (Exit.then (LoopIn P c Q) Q)) : AQ e0 U l L (LoopIn P c Q) := fun a w hf hs => loop_in (k a w hf hs)
theorem q_same {o : Oper} {v v' : Value} (q : Q1 P e0 U l L o v) (h : v = v') : Q1 P e0 U l L o v' := h ▸ q
theorem str_eq (x y : ByteArray) : (x.toList == y.toList) = decide (x = y) := by
  rw [ByteArray.toList_eq, ByteArray.toList_eq, Bool.eq_iff_iff, beq_iff_eq, decide_eq_true_iff]
  constructor
  · intro h
    cases x; cases y
    congr 1
    exact Array.toList_inj.1 h
  · intro h; rw [h]
theorem q_fromS {t e z b o o' len cap lo : Nat} {ii : Int} {k : IntKind} {ox oi : Operand} (hx : E l ox = some (.slice (some ⟨b, o, none⟩) len cap)) (hi : E l oi = some (.int k ii)) (hii : ii = (lo : Int)) (hlo : lo ≤ len) (hcap : len ≤ cap) (hu : P.underlying t = some (.slice e)) (hz : ∀ w, (sizeOf e).run P w = .ok z w) (ho : (if cap = lo then o else o + lo * z) = o') :
    Q1 P e0 U l L ⟨dd, .slice t ox (some oi) none none, ty, pos, af, g⟩ (.slice (some ⟨b, o', none⟩) (len - lo) (cap - lo)) := by
  intro a w hf hs
  subst hii
  have hru : ∀ w, (underlying t).run P w = .ok (.slice e) w := fun w => run_underlying hu w
  have ea : (if cap = lo then (some (⟨b, o, none⟩ : Addr)) else (some (⟨b, o, none⟩ : Addr)).map (·.add (lo * z))) = some ⟨b, o', none⟩ := by
    subst ho
    split
    · rfl
    · simp [addr_add]
  simp only [execOp, hf.ev hx, Option.map_some, hf.ev hi, Option.map_none]
  simp [Instr.sliceAt, Instr.slice, hru, Instr.sliceBounds, Instr.sliceBound, asIntOf, hlo, hz]
  simpa using ea
end
end
section
set_option autoImplicit false
open Go.RowKit
section
variable {P : Program} {e0 : Cfg} {U : Snaps} {l : Slots} {L : Boxes} {ops : Array Oper} {Q : Exit → Act → World → Prop} {rest : List Oper} {d : Nat} {v : Value}
variable {ty : TypeId} {pos : String} {af : Array Edge} {g : Option (Nat × Bool)} {dd : Option Nat}
theorem info_split {e z b : Nat} {zv : Value} (h : (P.info? e).map (fun i => (i.zero, i.size, i.bytes)) = some (some zv, z, b)) : ∃ i, P.info? e = some i ∧ i.zero = some zv ∧ i.size = z ∧ i.bytes = b := by
  cases hi : P.info? e with
  | none => rw [hi] at h; cases h
  | some i =>
    rw [hi] at h
    simp only [Option.map_some, Option.some.injEq, Prod.mk.injEq] at h
    exact ⟨i, rfl, h.1, h.2.1, h.2.2⟩
theorem below_drew_alloc (w : World) (o : Obj) : Below w.heap.size w (w.drew.alloc o) := ((Below.refl _ _).drew).alloc (Nat.le_refl _) o
theorem grownCap_le63 (w : World) (need old : Nat) (e : TypeId) (h : need ≤ 9223372036854775807) : grownCap w need old e ≤ 9223372036854775807 := by
  show need + w.tape w.drawn (.appendCap need old e) % (2 ^ 63 - need) ≤ _
  have : w.tape w.drawn (.appendCap need old e) % (2 ^ 63 - need) < 2 ^ 63 - need := Nat.mod_lt _ (by omega)
  omega
theorem run_appendNil {t e z bytes m c : Nat} {zv : Value} {A : Addr} {vs : List Value} {w : World} (ty : TypeId) (hu : P.underlying t = some (.slice e)) (hinfo : (P.info? e).map (fun i => (i.zero, i.size, i.bytes)) = some (some zv, z, bytes)) (hzv : zv.cells.size = z)
    (hs : Sta e0 U L w) (hl : vs.length = m * z) (hvs : ∀ j u, vs[j]? = some u → w.cell? (A.add j) = some u) (h0 : 0 < m) (hm : m ≤ 1000000) (hb : bytes ≤ 10000) :
    ∃ b' cap' sp' w', (Builtin.append_ #[t, t] ty #[.slice none 0 0, .slice (some A) m c]).run P w = .ok (.slice (some ⟨b', 0, none⟩) m cap') w' ∧ m ≤ cap' ∧ cap' ≤ 9223372036854775807 ∧ sp'.length = (cap' - m) * z ∧ Sta e0 U ((b', .cells (vs ++ sp')) :: L) w' := by
  obtain ⟨i, hi, hz, rfl, rfl⟩ := info_split hinfo
  have hmb : m * i.bytes ≤ 1000000 * 10000 := Nat.mul_le_mul hm hb
  have hr := run_append_nil (P := P) w t ty e i zv hu hi hz A m c vs hl hvs h0 (by omega) (by omega)
  have hcap := grownCap_ge w m 0 e
  refine ⟨w.heap.size, grownCap w m 0 e, (Builtin.zeroCells zv.cells (grownCap w m 0 e - m)).toList, _, hr, hcap, grownCap_le63 w m 0 e (by omega), by simp [size_zeroCells, hzv], ?_⟩
  have hA := hs.drew.alloc (vs ++ (Builtin.zeroCells zv.cells (grownCap w m 0 e - m)).toList) e
  have e1 : (vs ++ (Builtin.zeroCells zv.cells (grownCap w m 0 e - m)).toList).toArray = vs.toArray ++ Builtin.zeroCells zv.cells (grownCap w m 0 e - m) := Array.ext' (by simp)
  rw [e1] at hA
  exact hA
theorem run_appendBox {t e z bytes m c nn cap i b : Nat} {zv : Value} {A : Addr} {vs xs sp : List Value} {w : World} (ty : TypeId) (hu : P.underlying t = some (.slice e)) (hinfo : (P.info? e).map (fun i => (i.zero, i.size, i.bytes)) = some (some zv, z, bytes)) (hzv : zv.cells.size = z)
    (hs : Sta e0 U L w) (hi : L[i]? = some (b, .cells (xs ++ sp))) (hx : xs.length = nn * z) (hsp : sp.length = (cap - nn) * z) (hcap : nn ≤ cap) (hcm : cap ≤ 9223372036854775807)
    (hl : vs.length = m * z) (hvs : ∀ j u, vs[j]? = some u → w.cell? (A.add j) = some u) (h1 : ∀ u ∈ vs, u.oneCell' = true) (hm : nn + m ≤ 1000000) (hb : bytes ≤ 10000) :
    ∃ b' cap' sp' w', (Builtin.append_ #[t, t] ty #[.slice (some ⟨b, 0, none⟩) nn cap, .slice (some A) m c]).run P w = .ok (.slice (some ⟨b', 0, none⟩) (nn + m) cap') w' ∧ nn + m ≤ cap' ∧ cap' ≤ 9223372036854775807 ∧ sp'.length = (cap' - (nn + m)) * z ∧ Sta e0 U (L.set i (b', .cells ((xs ++ vs) ++ sp'))) w' := by
  obtain ⟨ti, hti, hz, rfl, rfl⟩ := info_split hinfo
  by_cases hroom : nn + m ≤ cap
  · have hfit : nn * ti.size + vs.length ≤ (xs ++ sp).length := by
      rw [List.length_append, hx, hsp, hl, ← Nat.add_mul]
      have : (nn + m) * ti.size ≤ cap * ti.size := Nat.mul_le_mul_right _ hroom
      have e1 : nn * ti.size + (cap - nn) * ti.size = cap * ti.size := by rw [← Nat.add_mul]; congr 1; omega
      omega
    obtain ⟨w', hr, hst⟩ := run_storeCells P e0 U i b vs L (xs ++ sp) (nn * ti.size) 0 w hs hi (by simpa using hfit) h1
    refine ⟨b, cap, sp.drop vs.length, w', ?_, hroom, hcm, ?_, ?_⟩
    · have hf := run_firstCells_some (P := P) w ti.size m A m c vs hl hvs
      simp [Builtin.append_, run_underlying hu, sizeOf, typeInfo, hti, Builtin.lenOf, hroom, hf, addr_add, hr]
    · rw [List.length_drop, hsp, hl, ← Nat.sub_mul]; congr 1; omega
    · simp only [Nat.add_zero] at hst
      have e1 : (xs ++ sp).take (nn * ti.size) ++ vs ++ (xs ++ sp).drop (nn * ti.size + vs.length) = (xs ++ vs) ++ sp.drop vs.length := by
        rw [← hx, List.take_left, List.drop_append, List.drop_eq_nil_of_le (by omega)]
        simp
      rw [e1] at hst
      exact hst
  · have holds : ∀ j u, xs[j]? = some u → w.cell? ((⟨b, 0, none⟩ : Addr).add j) = some u := fun j u hj => by
      rw [addr_add, Nat.zero_add]
      refine hs.cell hi ?_
      have hlt : j < xs.length := by
        rcases Nat.lt_or_ge j xs.length with h | h
        · exact h
        · rw [List.getElem?_eq_none h] at hj; cases hj
      rw [List.getElem?_append_left hlt]; exact hj
    have hmb : (nn + m) * ti.bytes ≤ 1000000 * 10000 := Nat.mul_le_mul hm hb
    have hr := run_append_grow (P := P) w t ty e ti zv hu hti hz ⟨b, 0, none⟩ nn cap xs hx holds A m c vs hl hvs (by omega) (by omega) (growslice_fits (by omega) (by omega))
    have hcap' := grownCap_ge w (nn + m) cap e
    refine ⟨w.heap.size, grownCap w (nn + m) cap e, (Builtin.zeroCells zv.cells (grownCap w (nn + m) cap e - (nn + m))).toList, _, hr, hcap', grownCap_le63 w (nn + m) cap e (by omega), by simp [size_zeroCells, hzv], ?_⟩
    refine hs.renew hi (below_drew_alloc w _) (Nat.le_refl _) ?_
    have hA := BoxAt.new w.drew ((xs ++ vs) ++ (Builtin.zeroCells zv.cells (grownCap w (nn + m) cap e - (nn + m))).toList) e
    have e1 : ((xs ++ vs) ++ (Builtin.zeroCells zv.cells (grownCap w (nn + m) cap e - (nn + m))).toList).toArray = xs.toArray ++ vs.toArray ++ Builtin.zeroCells zv.cells (grownCap w (nn + m) cap e - (nn + m)) := Array.ext' (by simp)
    rw [e1] at hA
    exact hA
theorem al_run2 {o : Oper} {K : Prop} (hg : want ops l o.guard = some true) (hd : o.dst = some d) (hn : Nat.blt d e0.n = true)
    (h : ∀ a w, Fr e0 l a → Sta e0 U L w → ∃ v w' U' L', (execOp a.eval o).run P w = .ok (.value v) w' ∧ Sta e0 U' L' w' ∧ AL P ops Q e0 U' ((d, v) :: l) L' rest) : AL P ops Q e0 U l L (o :: rest) := by
  intro a w hf hs
  unfold wpList
  rw [if_pos (want_ok hf hg)]
  refine Or.inl ?_
  unfold Oper.wp
  obtain ⟨v, w', U', L', hr, hs', hk⟩ := h a w hf hs
  rw [hr]
  show wpList P ops Q rest (a.put o.dst v) w'
  rw [hd]
  exact hk _ _ (hf.put hn v) hs'
theorem ex_append {ox oy : Operand} {t : TypeId} {vx vy : Value} {a : Act} (hx : a.eval ox = vx) (hy : a.eval oy = vy) {w w' : World} (hr : (Builtin.append_ #[t, t] ty #[vx, vy]).run P w = .ok v w') :
    (execOp a.eval ⟨dd, .call ⟨.builtin .append, #[ox, oy], #[t, t]⟩, ty, pos, af, g⟩).run P w = .ok (.value v) w' := by
  simp [execOp, resolve, invoke, builtin, hx, hy, hr]
theorem made_one (z : Value) (n : Nat) : madeCells #[z] n = (List.replicate n z).toArray := by
  apply Array.ext'
  simp [madeCells, List.map_const', Nat.mod_one]
theorem al_makeInts {t e bytes n : Nat} {z : Value} {x : Int} {ol oc : Operand} (hl : E l ol = some (.int .i64 x)) (hc : E l oc = some (.int .i64 x)) (hx : x = (n : Int)) (hu : P.underlying t = some (.slice e)) (hinfo : (P.info? e).map (fun i => (i.zero, i.size, i.bytes)) = some (some z, 1, bytes)) (hz1 : z.cells = #[z]) (hm : n ≤ 1000000) (hb : bytes ≤ 10000)
    (hn : Nat.blt d e0.n = true) (hw : want ops l g = some true)
    (k : ∀ b, AL P ops Q e0 U ((d, .slice (some ⟨b, 0, none⟩) n n) :: l) ((b, .cells (List.replicate n z)) :: L) rest) :
    AL P ops Q e0 U l L (⟨some d, .makeSlice t ol oc, ty, pos, af, g⟩ :: rest) :=
  al_run2 (K := True) hw rfl hn (fun a w hf hs => by
    subst hx
    have hnb : bytes * n ≤ 10000 * 1000000 := Nat.mul_le_mul hb hm
    have hr := run_make_row' (P := P) t e z bytes hu hinfo hz1 .i64 .i64 n (by omega) (by omega) w
    rw [made_one] at hr
    exact ⟨_, _, U, _, by simp [execOp, hf.ev hl, hf.ev hc, hr], hs.alloc _ e, k _⟩)
end
end
section
set_option autoImplicit false
open Go.RowKit
section
variable {P : Program} {e0 : Cfg} {U : Snaps} {l : Slots} {L : Boxes} {ops : Array Oper} {Q : Exit → Act → World → Prop} {rest : List Oper} {d : Nat} {v : Value}
variable {ty : TypeId} {pos : String} {af : Array Edge} {g : Option (Nat × Bool)} {dd : Option Nat}
end
end
section
set_option autoImplicit false
open Go.RowKit
section
variable {P : Program} {e0 : Cfg} {U : Snaps} {l : Slots} {L : Boxes} {ops : Array Oper} {Q : Exit → Act → World → Prop} {rest : List Oper} {d : Nat} {v : Value}
variable {ty : TypeId} {pos : String} {af : Array Edge} {g : Option (Nat × Bool)} {dd : Option Nat}
theorem q_bin {bo : BinOp} {xt yt : TypeId} {ox oy : Operand} {x y : Value} (hx : E l ox = some x) (hy : E l oy = some y) (hg : ∀ w, (eqGuard bo xt ox oy x y).run P w = .ok () w) (hr : ∀ w, (binOp bo xt x y).run P w = .ok v w) : Q1 P e0 U l L ⟨dd, .binOp bo xt ox oy yt, ty, pos, af, g⟩ v := by
  intro a w hf hs
  simp [execOp, hf.ev hx, hf.ev hy, hg, hr]
theorem q_cmpS {bo : BinOp} {xt yt : TypeId} {ox oy : Operand} {xs ys : Array Value} (hx : E l ox = some (.agg xs)) (hy : E l oy = some (.agg ys)) (hm : P.eqGuardType P.depth xt = false) (hr : ∀ w, (binOp bo xt (.agg xs) (.agg ys)).run P w = .ok v w) : Q1 P e0 U l L ⟨dd, .binOp bo xt ox oy yt, ty, pos, af, g⟩ v :=
  q_bin hx hy (fun w => run_eqGuard_agg w bo xt ox oy xs ys hm) hr
end
end
end Go.Proofs.YtogcjgjhmlifgaaGreat
