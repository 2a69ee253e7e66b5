import Derived.Test.YtogcjgjhmlifgaaGreatOAI
namespace Go.Proofs.YtogcjgjhmlifgaaGreat
set_option linter.unusedVariables false
set_option linter.unusedSimpArgs false
section
set_option autoImplicit false
open Go.RowKit
def AQ (e0 : Cfg) (U : Snaps) (l : Slots) (L : Boxes) (R : Act → World → Prop) : Prop := ∀ a w, Fr e0 l a → Sta e0 U L w → R a w
abbrev AL (P : Program) (ops : Array Oper) (Q : Exit → Act → World → Prop) (e0 : Cfg) (U : Snaps) (l : Slots) (L : Boxes) (rest : List Oper) : Prop := AQ e0 U l L (wpList P ops Q rest)
abbrev AC (P : Program) (e0 : Cfg) (U : Snaps) (l : Slots) (L : Boxes) (c : Code) (Q : Exit → Act → World → Prop) : Prop := AQ e0 U l L (Code.wp P c Q)
def want (ops : Array Oper) (l : Slots) : Option (Nat × Bool) → Option Bool
  | none => some true
  | some (j, b) => match (ops[j]?).bind (·.dst) with
    | some d => match look l d with
      | some (.bool c) => some (c == b)
      | some (.tuple _) => some false
      | _ => none
    | none => none
theorem want_ok {e0 : Cfg} {l : Slots} {a : Act} {ops : Array Oper} {o : Oper} {c : Bool} (h : Fr e0 l a) (e : want ops l o.guard = some c) : Region.wanted o (yielded ops a.tmps) = c := by
  unfold want at e
  unfold Region.wanted
  cases hg : o.guard with
  | none => rw [hg] at e; exact Option.some.inj e
  | some p =>
    obtain ⟨j, b⟩ := p
    rw [hg] at e
    dsimp only at e ⊢
    unfold yielded
    cases hd : (ops[j]?).bind (·.dst) with
    | none => rw [hd] at e; cases e
    | some d =>
      rw [hd] at e
      dsimp only [Option.bind] at e ⊢
      cases hs : look l d with
      | none => rw [hs] at e; cases e
      | some v =>
        rw [hs] at e
        rw [h.slot d v hs]
        cases v <;> (try (cases e; done))
        all_goals first
          | (rename_i x; have := Option.some.inj e; subst this; cases x <;> cases b <;> rfl)
          | (have := Option.some.inj e; subst this; cases b <;> rfl)
theorem addr_add (b o j : Nat) : (⟨b, o, none⟩ : Addr).add j = ⟨b, o + j, none⟩ := by
  unfold Addr.add; split
  · rename_i h; subst h; rfl
  · rfl
inductive Es (l : Slots) : List Operand → List Value → Prop
  | nil : Es l [] []
  | cons {x : Operand} {v : Value} {xs : List Operand} {vs : List Value} (h : E l x = some v) (t : Es l xs vs) : Es l (x :: xs) (v :: vs)
theorem Es.map {e0 : Cfg} {l : Slots} {a : Act} (hf : Fr e0 l a) {xs : List Operand} {vs : List Value} (h : Es l xs vs) : xs.map a.eval = vs := by
  induction h with
  | nil => rfl
  | cons hx _ ih => simp [hf.ev hx, ih]
inductive SetAt {α : Type} : Nat → α → List α → List α → Prop
  | z {x y : α} {l : List α} : SetAt 0 x (y :: l) (x :: l)
  | s {n : Nat} {x y : α} {l l' : List α} (h : SetAt n x l l') : SetAt (n + 1) x (y :: l) (y :: l')
theorem SetAt.eq {α : Type} {n : Nat} {x : α} {l l' : List α} (h : SetAt n x l l') : l' = l.set n x := by
  induction h with
  | z => rfl
  | s _ ih => rw [List.set_cons_succ, ← ih]
theorem SetAt.lt {α : Type} {n : Nat} {x : α} {l l' : List α} (h : SetAt n x l l') : n < l.length := by
  induction h with
  | z => simp
  | s _ ih => simpa using ih
inductive Drp {α : Type} : Nat → List α → List α → Prop
  | z {l : List α} : Drp 0 l l
  | s {n : Nat} {y : α} {l l' : List α} (h : Drp n l l') : Drp (n + 1) (y :: l) l'
theorem Drp.eq {α : Type} {n : Nat} {l l' : List α} (h : Drp n l l') : l' = l.drop n := by
  induction h with
  | z => rfl
  | s _ ih => rw [List.drop_succ_cons, ← ih]
inductive Tke {α : Type} : Nat → List α → List α → Prop
  | z {l : List α} : Tke 0 l []
  | s {n : Nat} {y : α} {l l' : List α} (h : Tke n l l') : Tke (n + 1) (y :: l) (y :: l')
theorem Tke.eq {α : Type} {n : Nat} {l l' : List α} (h : Tke n l l') : l' = l.take n ∧ l'.length = n := by
  induction h with
  | z => exact ⟨rfl, rfl⟩
  | s _ ih => exact ⟨by rw [List.take_succ_cons, ← ih.1], by simp [ih.2]⟩
inductive Ovr {α : Type} : List α → List α → List α → Prop
  | z {l : List α} : Ovr [] l l
  | s {x y : α} {vs l l' : List α} (h : Ovr vs l l') : Ovr (x :: vs) (y :: l) (x :: l')
theorem Ovr.eq {α : Type} {vs l l' : List α} (h : Ovr vs l l') : l' = vs ++ l.drop vs.length ∧ vs.length ≤ l.length := by
  induction h with
  | z => exact ⟨by simp, by simp⟩
  | s _ ih => exact ⟨by simp [← ih.1], by simpa using ih.2⟩
inductive Spl {α : Type} : Nat → List α → List α → List α → Prop
  | z {vs l l' : List α} (h : Ovr vs l l') : Spl 0 vs l l'
  | s {n : Nat} {y : α} {vs l l' : List α} (h : Spl n vs l l') : Spl (n + 1) vs (y :: l) (y :: l')
theorem Spl.eq {α : Type} {n : Nat} {vs l l' : List α} (h : Spl n vs l l') : l' = l.take n ++ vs ++ l.drop (n + vs.length) ∧ n + vs.length ≤ l.length := by
  induction h with
  | z h => obtain ⟨h1, h2⟩ := h.eq; exact ⟨by simpa using h1, by omega⟩
  | s _ ih =>
    refine ⟨?_, by simp; omega⟩
    rw [ih.1]
    simp [Nat.add_right_comm]
theorem SetAt.k0 {α : Type} {x y : α} {l : List α} : SetAt 0 x (y :: l) (x :: l) := .z
theorem Drp.k0 {α : Type} {l : List α} : Drp 0 (l) l := .z
theorem Tke.k0 {α : Type} {l : List α} : Tke 0 (l) [] := .z
theorem SetAt.k1 {α : Type} {a0 : α} {x y : α} {l : List α} : SetAt 1 x (a0 :: y :: l) (a0 :: x :: l) := .s (.z)
theorem Drp.k1 {α : Type} {a0 : α} {l : List α} : Drp 1 (a0 :: l) l := .s (.z)
theorem Tke.k1 {α : Type} {a0 : α} {l : List α} : Tke 1 (a0 :: l) [a0] := .s (.z)
theorem SetAt.k2 {α : Type} {a0 a1 : α} {x y : α} {l : List α} : SetAt 2 x (a0 :: a1 :: y :: l) (a0 :: a1 :: x :: l) := .s (.s (.z))
theorem Drp.k2 {α : Type} {a0 a1 : α} {l : List α} : Drp 2 (a0 :: a1 :: l) l := .s (.s (.z))
theorem Tke.k2 {α : Type} {a0 a1 : α} {l : List α} : Tke 2 (a0 :: a1 :: l) [a0, a1] := .s (.s (.z))
theorem SetAt.k3 {α : Type} {a0 a1 a2 : α} {x y : α} {l : List α} : SetAt 3 x (a0 :: a1 :: a2 :: y :: l) (a0 :: a1 :: a2 :: x :: l) := .s (.s (.s (.z)))
theorem Drp.k3 {α : Type} {a0 a1 a2 : α} {l : List α} : Drp 3 (a0 :: a1 :: a2 :: l) l := .s (.s (.s (.z)))
theorem Tke.k3 {α : Type} {a0 a1 a2 : α} {l : List α} : Tke 3 (a0 :: a1 :: a2 :: l) [a0, a1, a2] := .s (.s (.s (.z)))
theorem SetAt.k4 {α : Type} {a0 a1 a2 a3 : α} {x y : α} {l : List α} : SetAt 4 x (a0 :: a1 :: a2 :: a3 :: y :: l) (a0 :: a1 :: a2 :: a3 :: x :: l) := .s (.s (.s (.s (.z))))
theorem Drp.k4 {α : Type} {a0 a1 a2 a3 : α} {l : List α} : Drp 4 (a0 :: a1 :: a2 :: a3 :: l) l := .s (.s (.s (.s (.z))))
theorem Tke.k4 {α : Type} {a0 a1 a2 a3 : α} {l : List α} : Tke 4 (a0 :: a1 :: a2 :: a3 :: l) [a0, a1, a2, a3] := .s (.s (.s (.s (.z))))
theorem SetAt.k5 {α : Type} {a0 a1 a2 a3 a4 : α} {x y : α} {l : List α} : SetAt 5 x (a0 :: a1 :: a2 :: a3 :: a4 :: y :: l) (a0 :: a1 :: a2 :: a3 :: a4 :: x :: l) := .s (.s (.s (.s (.s (.z)))))
theorem Drp.k5 {α : Type} {a0 a1 a2 a3 a4 : α} {l : List α} : Drp 5 (a0 :: a1 :: a2 :: a3 :: a4 :: l) l := .s (.s (.s (.s (.s (.z)))))
theorem Tke.k5 {α : Type} {a0 a1 a2 a3 a4 : α} {l : List α} : Tke 5 (a0 :: a1 :: a2 :: a3 :: a4 :: l) [a0, a1, a2, a3, a4] := .s (.s (.s (.s (.s (.z)))))
theorem SetAt.k9 {α : Type} {a0 a1 a2 a3 a4 a5 a6 a7 a8 : α} {x y : α} {l : List α} : SetAt 9 x (a0 :: a1 :: a2 :: a3 :: a4 :: a5 :: a6 :: a7 :: a8 :: y :: l) (a0 :: a1 :: a2 :: a3 :: a4 :: a5 :: a6 :: a7 :: a8 :: x :: l) := .s (.s (.s (.s (.s (.s (.s (.s (.s (.z)))))))))
theorem Drp.k9 {α : Type} {a0 a1 a2 a3 a4 a5 a6 a7 a8 : α} {l : List α} : Drp 9 (a0 :: a1 :: a2 :: a3 :: a4 :: a5 :: a6 :: a7 :: a8 :: l) l := .s (.s (.s (.s (.s (.s (.s (.s (.s (.z)))))))))
theorem Tke.k9 {α : Type} {a0 a1 a2 a3 a4 a5 a6 a7 a8 : α} {l : List α} : Tke 9 (a0 :: a1 :: a2 :: a3 :: a4 :: a5 :: a6 :: a7 :: a8 :: l) [a0, a1, a2, a3, a4, a5, a6, a7, a8] := .s (.s (.s (.s (.s (.s (.s (.s (.s (.z)))))))))
theorem SetAt.k10 {α : Type} {a0 a1 a2 a3 a4 a5 a6 a7 a8 a9 : α} {x y : α} {l : List α} : SetAt 10 x (a0 :: a1 :: a2 :: a3 :: a4 :: a5 :: a6 :: a7 :: a8 :: a9 :: y :: l) (a0 :: a1 :: a2 :: a3 :: a4 :: a5 :: a6 :: a7 :: a8 :: a9 :: x :: l) := .s (.s (.s (.s (.s (.s (.s (.s (.s (.s (.z))))))))))
theorem Drp.k10 {α : Type} {a0 a1 a2 a3 a4 a5 a6 a7 a8 a9 : α} {l : List α} : Drp 10 (a0 :: a1 :: a2 :: a3 :: a4 :: a5 :: a6 :: a7 :: a8 :: a9 :: l) l := .s (.s (.s (.s (.s (.s (.s (.s (.s (.s (.z))))))))))
theorem Tke.k10 {α : Type} {a0 a1 a2 a3 a4 a5 a6 a7 a8 a9 : α} {l : List α} : Tke 10 (a0 :: a1 :: a2 :: a3 :: a4 :: a5 :: a6 :: a7 :: a8 :: a9 :: l) [a0, a1, a2, a3, a4, a5, a6, a7, a8, a9] := .s (.s (.s (.s (.s (.s (.s (.s (.s (.s (.z))))))))))
section
variable {P : Program} {e0 : Cfg} {U : Snaps} {l : Slots} {L : Boxes} {ops : Array Oper} {Q : Exit → Act → World → Prop} {rest : List Oper} {o : Oper} {d : Nat} {v : Value}
def Q1 (P : Program) (e0 : Cfg) (U : Snaps) (l : Slots) (L : Boxes) (o : Oper) (v : Value) : Prop := ∀ a w, Fr e0 l a → Sta e0 U L w → (execOp a.eval o).run P w = .ok (.value v) w
theorem al_q (q : Q1 P e0 U l L o v) (hd : o.dst = some d) (hn : Nat.blt d e0.n = true) (hw : want ops l o.guard = some true) (k : AL P ops Q e0 U ((d, v) :: l) L rest) : AL P ops Q e0 U l L (o :: rest) := by
  intro a w hf hs
  unfold wpList
  rw [if_pos (want_ok hf hw)]
  refine Or.inl ?_
  unfold Oper.wp
  rw [q a w hf hs]
  show wpList P ops Q rest (a.put o.dst v) w
  rw [hd]
  exact k _ _ (hf.put hn v) hs
theorem al_p {op : Op} {ty : TypeId} {pos : String} {af : Array Edge} {g : Option (Nat × Bool)} (q : Q1 P e0 U l L ⟨some d, op, ty, pos, af, g⟩ v) (k : AL P ops Q e0 U ((d, v) :: l) L rest) (hn : Nat.blt d e0.n = true := by rfl) (hw : want ops l g = some true := by rfl) : AL P ops Q e0 U l L (⟨some d, op, ty, pos, af, g⟩ :: rest) := al_q q rfl hn hw k
theorem al_skip (hw : want ops l o.guard = some false) (hd : o.dst = some d) (hn : Nat.blt d e0.n = true) (k : AL P ops Q e0 U ((d, undef) :: l) L rest) : AL P ops Q e0 U l L (o :: rest) := by
  intro a w hf hs
  unfold wpList
  rw [if_neg (by rw [want_ok hf hw]; decide), hd]
  exact k _ _ (hf.put hn undef) hs
theorem aq_split {R : Act → World → Prop} (d : Nat) {b : Bool} (hs : look l d = some (.bool b)) (kt : b = true → AQ e0 U ((d, .bool true) :: l) L R) (kf : b = false → AQ e0 U ((d, .bool false) :: l) L R) : AQ e0 U l L R := by
  intro a w hf hst
  have key : ∀ c, b = c → Fr e0 ((d, .bool c) :: l) a := fun c hc => hf.sub (fun t u e => by
    rw [look_cons] at e
    split at e
    · rename_i hd; subst hd; rw [hs, hc]; exact e
    · exact e)
  cases hb : b
  · exact kf hb a w (key false hb) hst
  · exact kt hb a w (key true hb) hst
theorem aq_keep {R : Act → World → Prop} (l' : Slots) (h : AllLook l l') (k : AQ e0 U l' L R) : AQ e0 U l L R := fun a w hf hs => k a w (hf.sub h.sub) hs
inductive LookAll (l : Slots) : List Nat → Slots → Prop
  | nil : LookAll l [] []
  | cons {t : Nat} {v : Value} {ts : List Nat} {r : Slots} (h : look l t = some v) (k : LookAll l ts r) : LookAll l (t :: ts) ((t, v) :: r)
theorem LookAll.all {ts : List Nat} {r : Slots} (h : LookAll l ts r) : AllLook l r := by
  induction h with
  | nil => trivial
  | cons h _ ih => exact ⟨h, ih⟩
theorem aq_keepL {R : Act → World → Prop} (ts : List Nat) {r : Slots} (h : LookAll l ts r) (k : AQ e0 U r L R) : AQ e0 U l L R := aq_keep r h.all k
inductive Boxen : Boxes → List Bool → Boxes → Prop
  | nil : Boxen [] [] []
  | keep {x : Nat × Cont} {L M : Boxes} {bs : List Bool} (h : Boxen L bs M) : Boxen (x :: L) (true :: bs) (x :: M)
  | drop {x : Nat × Cont} {L M : Boxes} {bs : List Bool} (h : Boxen L bs M) : Boxen (x :: L) (false :: bs) M
theorem Boxen.at {L M : Boxes} {bs : List Bool} (h : Boxen L bs M) : ∃ f : Nat → Nat, (∀ i x, M[i]? = some x → L[f i]? = some x) ∧ ∀ i j, f i = f j → i = j := by
  induction h with
  | nil => exact ⟨id, fun i x h => h, fun i j h => h⟩
  | keep h ih =>
    obtain ⟨f, h1, h2⟩ := ih
    refine ⟨fun i => match i with | 0 => 0 | i + 1 => f i + 1, fun i x hx => ?_, fun i j hij => ?_⟩
    · cases i with
      | zero => simpa using hx
      | succ i => simpa using h1 i x (by simpa using hx)
    · cases i with
      | zero => cases j with
        | zero => rfl
        | succ j => simp at hij
      | succ i => cases j with
        | zero => simp at hij
        | succ j => rw [h2 i j (by simpa using hij)]
  | drop h ih =>
    obtain ⟨f, h1, h2⟩ := ih
    exact ⟨fun i => f i + 1, fun i x hx => by simpa using h1 i x hx, fun i j hij => h2 i j (by simpa using hij)⟩
theorem Sta.sift {M : Boxes} {bs : List Bool} {w : World} (h : Sta e0 U L w) (hb : Boxen L bs M) : Sta e0 U M w := by
  obtain ⟨f, h1, h2⟩ := hb.at
  exact ⟨h.chg, fun i b cs hi => h.box _ b cs (h1 i _ hi), fun i j b cs cs' hi hj => h2 i j (h.apart _ _ b cs cs' (h1 i _ hi) (h1 j _ hj)), fun lo u hu => by
    obtain ⟨f0, f1, f2, f3, f5, f4⟩ := h.snap lo u hu
    exact ⟨f0, f1, f2, f3, f5, fun i b cs hi => f4 _ b cs (h1 i _ hi)⟩⟩
inductive Picks (L : Boxes) : List Nat → Boxes → Prop
  | nil : Picks L [] []
  | cons {j : Nat} {js : List Nat} {x : Nat × Cont} {M : Boxes} (h : L[j]? = some x) (t : Picks L js M) : Picks L (j :: js) (x :: M)
theorem Picks.at {M : Boxes} {js : List Nat} (h : Picks L js M) : ∀ (i : Nat) (x : Nat × Cont), M[i]? = some x → ∃ j : Nat, js[i]? = some j ∧ L[j]? = some x := by
  induction h with
  | nil => intro i x h; simp at h
  | cons h t ih =>
    intro i x hx
    cases i with
    | zero => exact ⟨_, rfl, by rw [h]; simpa using hx⟩
    | succ i => exact ih i x (by simpa using hx)
theorem Sta.pick {M : Boxes} {js : List Nat} {w : World} (h : Sta e0 U L w) (hb : Picks L js M) (hnd : js.Nodup) : Sta e0 U M w := by
  have g := hb.at
  refine ⟨h.chg, fun i b cs hi => ?_, fun i j b cs cs' hi hj => ?_, fun lo u hu => ?_⟩
  · obtain ⟨j, -, hj⟩ := g i _ hi; exact h.box j b cs hj
  · obtain ⟨i', hi1, hi2⟩ := g i _ hi
    obtain ⟨j', hj1, hj2⟩ := g j _ hj
    obtain rfl := h.apart i' j' b cs cs' hi2 hj2
    exact (List.getElem?_inj (List.getElem?_eq_some_iff.1 hi1).1 hnd).1 (hi1.trans hj1.symm)
  · obtain ⟨f0, f1, f2, f3, f5, f4⟩ := h.snap lo u hu
    exact ⟨f0, f1, f2, f3, f5, fun i b cs hi => by obtain ⟨j, -, hj⟩ := g i _ hi; exact f4 j b cs hj⟩
abbrev Own (w : World) (L : Boxes) (w' : World) : Prop := Sta ⟨0, [], w, []⟩ [] L w'
theorem Sta.own {n : Nat} {D : List Deferred} {w w' : World} {M : Boxes} {js : List Nat} (h : Sta ⟨n, D, w, []⟩ U L w') (hb : Picks L js M) (hnd : js.Nodup) : Own w M w' :=
  ((h.fewer U.length (by simp)).pick hb hnd).defer 0
theorem Sta.gift {n : Nat} {D : List Deferred} {V : Snaps} {M : Boxes} {w w' : World} (h : Sta e0 U L w) (g : Sta ⟨n, D, w, []⟩ V M w') : Sta e0 U (M ++ L) w' := by
  have h' := h.ext g.below
  have hz := h.chg.size
  have new : ∀ i b cs, M[i]? = some (b, cs) → w.heap.size ≤ b := fun i b cs hi => by
    rcases (g.box i b cs hi).1 with k | k
    · exact k
    · cases k
  have at' : ∀ (i b : Nat) (cs : Cont), (M ++ L)[i]? = some (b, cs) → (i < M.length ∧ M[i]? = some (b, cs)) ∨ (M.length ≤ i ∧ L[i - M.length]? = some (b, cs)) := fun i b cs hi => by
    rw [List.getElem?_append] at hi
    split at hi
    · exact Or.inl ⟨by assumption, hi⟩
    · exact Or.inr ⟨by omega, hi⟩
  refine ⟨h'.chg, fun i b cs hi => ?_, fun i j b cs cs' hi hj => ?_, fun lo u hu => ?_⟩
  · rcases at' i b cs hi with ⟨-, k⟩ | ⟨-, k⟩
    · exact ⟨Or.inl (Nat.le_trans hz (new i b cs k)), (g.box i b cs k).2⟩
    · exact h'.box _ b cs k
  · rcases at' i b cs hi with ⟨hi1, k⟩ | ⟨hi1, k⟩
    · rcases at' j b cs' hj with ⟨hj1, k'⟩ | ⟨hj1, k'⟩
      · exact g.apart i j b cs cs' k k'
      · have := new i b cs k; have := (h.box _ b cs' k').2.lt; omega
    · rcases at' j b cs' hj with ⟨hj1, k'⟩ | ⟨hj1, k'⟩
      · have := new j b cs' k'; have := (h.box _ b cs k).2.lt; omega
      · have := h.apart _ _ b cs cs' k k'; omega
  · obtain ⟨f0, f1, f2, f3, f5, f4⟩ := h'.snap lo u hu
    obtain ⟨-, -, g2, -⟩ := h.snap lo u hu
    refine ⟨f0, f1, f2, f3, f5, fun i b cs hi => ?_⟩
    rcases at' i b cs hi with ⟨-, k⟩ | ⟨-, k⟩
    · have := new i b cs k; exact Or.inr (by omega)
    · exact f4 _ b cs k
theorem aq_keepB {R : Act → World → Prop} {M : Boxes} {bs : List Bool} (hb : Boxen L bs M) (k : AQ e0 U l M R) : AQ e0 U l L R := fun a w hf hs => k a w hf (hs.sift hb)
theorem q_move {x : Operand} {ty : TypeId} {pos : String} {af : Array Edge} {g : Option (Nat × Bool)} {dd : Option Nat} (hx : E l x = some v) : Q1 P e0 U l L ⟨dd, .move x, ty, pos, af, g⟩ v := by
  intro a w hf hs
  simp only [execOp, hf.ev hx]; rfl
theorem q_assign {x : Operand} {ty : TypeId} {pos : String} {af : Array Edge} {g : Option (Nat × Bool)} {dd : Option Nat} (hx : E l x = some v) : Q1 P e0 U l L ⟨dd, .assign x, ty, pos, af, g⟩ v := by
  intro a w hf hs
  simp only [execOp, hf.ev hx]; rfl
theorem q_pickT {c x y : Operand} {ty : TypeId} {pos : String} {af : Array Edge} {g : Option (Nat × Bool)} {dd : Option Nat} (hc : E l c = some (.bool true)) (hx : E l x = some v) : Q1 P e0 U l L ⟨dd, .pick c x y, ty, pos, af, g⟩ v := by
  intro a w hf hs
  simp only [execOp, hf.ev hc, hf.ev hx, asBool]; rfl
theorem q_pickF {c x y : Operand} {ty : TypeId} {pos : String} {af : Array Edge} {g : Option (Nat × Bool)} {dd : Option Nat} (hc : E l c = some (.bool false)) (hy : E l y = some v) : Q1 P e0 U l L ⟨dd, .pick c x y, ty, pos, af, g⟩ v := by
  intro a w hf hs
  simp only [execOp, hf.ev hc, hf.ev hy, asBool]; rfl
theorem q_add {xt yt : TypeId} {ox oy : Operand} {x y : Int} {ty : TypeId} {pos : String} {af : Array Edge} {g : Option (Nat × Bool)} {dd : Option Nat} (hx : E l ox = some (.int .i64 x)) (hy : E l oy = some (.int .i64 y)) (hb : -9223372036854775808 ≤ x + y ∧ x + y ≤ 9223372036854775807) : Q1 P e0 U l L ⟨dd, .binOp .add xt ox oy yt, ty, pos, af, g⟩ (.int .i64 (x + y)) := by
  intro a w hf hs
  have hwr : IntKind.i64.wrap (x + y) = x + y := IntWalk.i64_in _ hb
  simp [execOp, hf.ev hx, hf.ev hy, eqGuard, binOp, Op.intArith, hwr, Bind.bind, Sem.bind, Sem.run, pure]
theorem q_sub {xt yt : TypeId} {ox oy : Operand} {x y : Int} {ty : TypeId} {pos : String} {af : Array Edge} {g : Option (Nat × Bool)} {dd : Option Nat} (hx : E l ox = some (.int .i64 x)) (hy : E l oy = some (.int .i64 y)) (hb : -9223372036854775808 ≤ x - y ∧ x - y ≤ 9223372036854775807) : Q1 P e0 U l L ⟨dd, .binOp .sub xt ox oy yt, ty, pos, af, g⟩ (.int .i64 (x - y)) := by
  intro a w hf hs
  have hwr : IntKind.i64.wrap (x - y) = x - y := IntWalk.i64_in _ hb
  simp [execOp, hf.ev hx, hf.ev hy, eqGuard, binOp, Op.intArith, hwr, Bind.bind, Sem.bind, Sem.run, pure]
theorem q_mul {xt yt : TypeId} {ox oy : Operand} {x y : Int} {ty : TypeId} {pos : String} {af : Array Edge} {g : Option (Nat × Bool)} {dd : Option Nat} (hx : E l ox = some (.int .i64 x)) (hy : E l oy = some (.int .i64 y)) (hb : -9223372036854775808 ≤ x * y ∧ x * y ≤ 9223372036854775807) : Q1 P e0 U l L ⟨dd, .binOp .mul xt ox oy yt, ty, pos, af, g⟩ (.int .i64 (x * y)) := by
  intro a w hf hs
  have hwr : IntKind.i64.wrap (x * y) = x * y := IntWalk.i64_in _ hb
  simp [execOp, hf.ev hx, hf.ev hy, eqGuard, binOp, Op.intArith, hwr, Bind.bind, Sem.bind, Sem.run, pure]
theorem q_quo {xt yt : TypeId} {ox oy : Operand} {x y : Int} {ty : TypeId} {pos : String} {af : Array Edge} {g : Option (Nat × Bool)} {dd : Option Nat} (hx : E l ox = some (.int .i64 x)) (hy : E l oy = some (.int .i64 y)) (hb : -9223372036854775808 ≤ x ∧ x ≤ 9223372036854775807 ∧ 1 ≤ y) : Q1 P e0 U l L ⟨dd, .binOp .quo xt ox oy yt, ty, pos, af, g⟩ (.int .i64 (x.tdiv y)) := by
  intro a w hf hs
  have hwr : IntKind.i64.wrap (x.tdiv y) = x.tdiv y := IntWalk.i64_quo' _ _ hb
  have h0 : y ≠ 0 := by omega
  simp [execOp, hf.ev hx, hf.ev hy, eqGuard, binOp, Op.intDiv, hwr, h0, Bind.bind, Sem.bind, Sem.run, pure]
theorem q_rem {xt yt : TypeId} {k : IntKind} {ox oy : Operand} {x y : Int} {ty : TypeId} {pos : String} {af : Array Edge} {g : Option (Nat × Bool)} {dd : Option Nat} (hx : E l ox = some (.int k x)) (hy : E l oy = some (.int k y)) (h0 : y ≠ 0) : Q1 P e0 U l L ⟨dd, .binOp .rem xt ox oy yt, ty, pos, af, g⟩ (.int k (x.tmod y)) := by
  intro a w hf hs
  simp [execOp, hf.ev hx, hf.ev hy, eqGuard, binOp, Op.intDiv, h0, Bind.bind, Sem.bind, Sem.run, pure]
theorem q_lss {xt yt : TypeId} {k : IntKind} {ox oy : Operand} {x y : Int} {ty : TypeId} {pos : String} {af : Array Edge} {g : Option (Nat × Bool)} {dd : Option Nat} (hx : E l ox = some (.int k x)) (hy : E l oy = some (.int k y)) : Q1 P e0 U l L ⟨dd, .binOp .lss xt ox oy yt, ty, pos, af, g⟩ (.bool (decide (x < y))) := by
  intro a w hf hs
  simp [execOp, hf.ev hx, hf.ev hy, eqGuard, binOp, Op.intCmp, Bind.bind, Sem.bind, Sem.run, pure]
theorem q_leq {xt yt : TypeId} {k : IntKind} {ox oy : Operand} {x y : Int} {ty : TypeId} {pos : String} {af : Array Edge} {g : Option (Nat × Bool)} {dd : Option Nat} (hx : E l ox = some (.int k x)) (hy : E l oy = some (.int k y)) : Q1 P e0 U l L ⟨dd, .binOp .leq xt ox oy yt, ty, pos, af, g⟩ (.bool (decide (x ≤ y))) := by
  intro a w hf hs
  simp [execOp, hf.ev hx, hf.ev hy, eqGuard, binOp, Op.intCmp, Bind.bind, Sem.bind, Sem.run, pure]
theorem q_gtr {xt yt : TypeId} {k : IntKind} {ox oy : Operand} {x y : Int} {ty : TypeId} {pos : String} {af : Array Edge} {g : Option (Nat × Bool)} {dd : Option Nat} (hx : E l ox = some (.int k x)) (hy : E l oy = some (.int k y)) : Q1 P e0 U l L ⟨dd, .binOp .gtr xt ox oy yt, ty, pos, af, g⟩ (.bool (decide (x > y))) := by
  intro a w hf hs
  simp [execOp, hf.ev hx, hf.ev hy, eqGuard, binOp, Op.intCmp, Bind.bind, Sem.bind, Sem.run, pure]
theorem q_geq {xt yt : TypeId} {k : IntKind} {ox oy : Operand} {x y : Int} {ty : TypeId} {pos : String} {af : Array Edge} {g : Option (Nat × Bool)} {dd : Option Nat} (hx : E l ox = some (.int k x)) (hy : E l oy = some (.int k y)) : Q1 P e0 U l L ⟨dd, .binOp .geq xt ox oy yt, ty, pos, af, g⟩ (.bool (decide (x ≥ y))) := by
  intro a w hf hs
  simp [execOp, hf.ev hx, hf.ev hy, eqGuard, binOp, Op.intCmp, Bind.bind, Sem.bind, Sem.run, pure]
theorem q_eql {xt yt : TypeId} {k : IntKind} {ox oy : Operand} {x y : Int} {ty : TypeId} {pos : String} {af : Array Edge} {g : Option (Nat × Bool)} {dd : Option Nat} (hx : E l ox = some (.int k x)) (hy : E l oy = some (.int k y)) : Q1 P e0 U l L ⟨dd, .binOp .eql xt ox oy yt, ty, pos, af, g⟩ (.bool (x == y)) := by
  intro a w hf hs
  simp [execOp, hf.ev hx, hf.ev hy, eqGuard, binOp, Op.intCmp, Bind.bind, Sem.bind, Sem.run, pure]
theorem q_neq {xt yt : TypeId} {k : IntKind} {ox oy : Operand} {x y : Int} {ty : TypeId} {pos : String} {af : Array Edge} {g : Option (Nat × Bool)} {dd : Option Nat} (hx : E l ox = some (.int k x)) (hy : E l oy = some (.int k y)) : Q1 P e0 U l L ⟨dd, .binOp .neq xt ox oy yt, ty, pos, af, g⟩ (.bool (x != y)) := by
  intro a w hf hs
  simp [execOp, hf.ev hx, hf.ev hy, eqGuard, binOp, Op.intCmp, Bind.bind, Sem.bind, Sem.run, pure]
theorem q_not {xt : TypeId} {ox : Operand} {x : Bool} {ty : TypeId} {pos : String} {af : Array Edge} {g : Option (Nat × Bool)} {dd : Option Nat} (hx : E l ox = some (.bool x)) : Q1 P e0 U l L ⟨dd, .unOp .not xt ox, ty, pos, af, g⟩ (.bool (!x)) := by
  intro a w hf hs
  simp [execOp, hf.ev hx, Op.unary]
theorem q_lenS {st e : TypeId} {ox : Operand} {p : Option Addr} {m c : Nat} {ty : TypeId} {pos : String} {af : Array Edge} {g : Option (Nat × Bool)} {dd : Option Nat} (hx : E l ox = some (.slice p m c)) (hu : ∀ w, (underlying st).run P w = .ok (.slice e) w) : Q1 P e0 U l L ⟨dd, .call ⟨.builtin .len, #[ox], #[st]⟩, ty, pos, af, g⟩ (.int .i64 (m : Int)) := by
  intro a w hf hs
  simp [execOp, resolve, invoke, builtin, hf.ev hx, Builtin.len_, goInt, hu]
def nth : List Value → Nat → Option Value
  | [], _ => none
  | v :: _, 0 => some v
  | _ :: r, i + 1 => nth r i
theorem nth_eq : ∀ (l : List Value) (i : Nat), nth l i = l[i]?
  | [], _ => rfl
  | _ :: _, 0 => rfl
  | _ :: r, i + 1 => by simp only [nth, List.getElem?_cons_succ]; exact nth_eq r i
theorem q_extract {i : Nat} {ox : Operand} {vs : List Value} {ty : TypeId} {pos : String} {af : Array Edge} {g : Option (Nat × Bool)} {dd : Option Nat} (hx : E l ox = some (.tuple vs.toArray)) (hi : nth vs i = some v) : Q1 P e0 U l L ⟨dd, .extract ox i, ty, pos, af, g⟩ v := by
  intro a w hf hs
  have hi' : vs.toArray[i]? = some v := by rw [← hi, nth_eq]; simp
  simp only [execOp, hf.ev hx, Instr.extract, hi', Bind.bind, Sem.bind, Sem.run, pure]
theorem q_fieldAddr {s f b o z : Nat} {fs : Array Field} {fd : Field} (o' : Nat) {ox : Operand} {ty : TypeId} {pos : String} {af : Array Edge} {g : Option (Nat × Bool)} {dd : Option Nat} (hx : E l ox = some (.pointer (some ⟨b, o, none⟩))) (hu : ∀ w, (underlying s).run P w = .ok (.struct fs) w) (hff : fs[f]? = some fd) (hz : ∀ w, (sizeOf fd.type).run P w = .ok z w) (hz0 : z ≠ 0) (ho : o + fd.offset = o') : Q1 P e0 U l L ⟨dd, .fieldAddr s ox f, ty, pos, af, g⟩ (.pointer (some ⟨b, o', none⟩)) := by
  intro a w hf hs
  have ha : (⟨b, o, none⟩ : Addr).add fd.offset = ⟨b, o', none⟩ := by
    unfold Addr.add; split
    · rename_i h; rw [h] at ho; subst ho; rfl
    · subst ho; rfl
  simp [execOp, hf.ev hx, Instr.fieldAt, Instr.sureAddr, fieldPlace, hu, hz, hz0, hff, ha]
theorem q_indexAddr {s e b o i len cap z : Nat} {ii : Int} {k : IntKind} (o' : Nat) {ox oi : Operand} {ty : TypeId} {pos : String} {af : Array Edge} {g : Option (Nat × Bool)} {dd : Option Nat} (hx : E l ox = some (.slice (some ⟨b, o, none⟩) len cap)) (hi : E l oi = some (.int k ii)) (hii : ii = (i : Int)) (hil : i < len) (hu : ∀ w, (underlying s).run P w = .ok (.slice e) w) (hz : ∀ w, (sizeOf e).run P w = .ok z w) (ho : o + i * z = o') : Q1 P e0 U l L ⟨dd, .indexAddr s ox oi, ty, pos, af, g⟩ (.pointer (some ⟨b, o', none⟩)) := by
  intro a w hf hs
  have ha : (⟨b, o, none⟩ : Addr).add (i * z) = ⟨b, o', none⟩ := by
    unfold Addr.add; split
    · rename_i h; rw [h] at ho; subst ho; rfl
    · subst ho; rfl
  subst hii
  have h0 : (0 : Int) ≤ (i : Int) ∧ (i : Int) < (len : Int) := ⟨by omega, by omega⟩
  simp [execOp, hf.ev hx, hf.ev hi, Instr.indexAt, asIntOf, hu, hz, h0, ha, hil]
theorem q_indexAddrA {s e b o i len cap z : Nat} {ii : Int} {k : IntKind} {A : Option Addr} (o' : Nat) {ox oi : Operand} {ty : TypeId} {pos : String} {af : Array Edge} {g : Option (Nat × Bool)} {dd : Option Nat} (hA : A = some ⟨b, o, none⟩) (hx : E l ox = some (.slice A len cap)) (hi : E l oi = some (.int k ii)) (hii : ii = (i : Int)) (hil : i < len) (hu : ∀ w, (underlying s).run P w = .ok (.slice e) w) (hz : ∀ w, (sizeOf e).run P w = .ok z w) (ho : o + i * z = o') : Q1 P e0 U l L ⟨dd, .indexAddr s ox oi, ty, pos, af, g⟩ (.pointer (some ⟨b, o', none⟩)) :=
  q_indexAddr o' (hA ▸ hx) hi hii hil hu hz ho
theorem q_load {t b o i : Nat} {cs : List Value} {ox : Operand} {ty : TypeId} {pos : String} {af : Array Edge} {g : Option (Nat × Bool)} {dd : Option Nat} (hx : E l ox = some (.pointer (some ⟨b, o, none⟩))) (hi : L[i]? = some (b, .cells cs)) (hv : cs[o]? = some v) (hg : ∀ w, (isAgg t).run P w = .ok false w) : Q1 P e0 U l L ⟨dd, .load t ox, ty, pos, af, g⟩ v := by
  intro a w hf hs
  simp [execOp, hf.ev hx, Instr.loadAt, Instr.sureAddr, loadVar, hg, hs.cell hi hv]
theorem q_loadAll {t b z i : Nat} {cs : List Value} {ox : Operand} {ty : TypeId} {pos : String} {af : Array Edge} {g : Option (Nat × Bool)} {dd : Option Nat} (hx : E l ox = some (.pointer (some ⟨b, 0, none⟩))) (hi : L[i]? = some (b, .cells cs)) (hg : ∀ w, (isAgg t).run P w = .ok true w) (hz : ∀ w, (sizeOf t).run P w = .ok z w) (hn : z = cs.length) : Q1 P e0 U l L ⟨dd, .load t ox, ty, pos, af, g⟩ (.agg cs.toArray) := by
  intro a w hf hs
  have hc := run_loadCells_list (P := P) (w := w) ⟨b, 0, none⟩ cs (fun j u hj => by
    rw [addr_add, Nat.zero_add]; exact hs.cell hi hj)
  simp [execOp, hf.ev hx, Instr.loadAt, Instr.sureAddr, loadVar, hg, hz, hc, hn]
theorem q_loadSub {t b o z i : Nat} {cs ds vs : List Value} {ox : Operand} {ty : TypeId} {pos : String} {af : Array Edge} {g : Option (Nat × Bool)} {dd : Option Nat} (hx : E l ox = some (.pointer (some ⟨b, o, none⟩))) (hi : L[i]? = some (b, .cells cs)) (hg : ∀ w, (isAgg t).run P w = .ok true w) (hz : ∀ w, (sizeOf t).run P w = .ok z w) (h1 : Drp o cs ds) (h2 : Tke z ds vs) : Q1 P e0 U l L ⟨dd, .load t ox, ty, pos, af, g⟩ (.agg vs.toArray) := by
  intro a w hf hs
  have hv : vs = (cs.drop o).take z := by rw [h2.eq.1, h1.eq]
  have hn : z = vs.length := h2.eq.2.symm
  have hc := run_loadCells_list (P := P) (w := w) ⟨b, o, none⟩ vs (fun j u hj => by
    rw [addr_add]
    refine hs.cell hi ?_
    have hj' : j < z := by
      rcases Nat.lt_or_ge j z with h | h
      · exact h
      · rw [List.getElem?_eq_none (by omega)] at hj; cases hj
    rw [hv, List.getElem?_take, if_pos hj', List.getElem?_drop] at hj
    exact hj)
  simp [execOp, hf.ev hx, Instr.loadAt, Instr.sureAddr, loadVar, hg, hz, hc, hn]
theorem q_loadX {t : Nat} {p : Addr} {ox : Operand} {ty : TypeId} {pos : String} {af : Array Edge} {g : Option (Nat × Bool)} {dd : Option Nat} (hx : E l ox = some (.pointer (some p))) (hg : ∀ w, (isAgg t).run P w = .ok false w) (hv : ∀ w, Sta e0 U L w → w.cell? p = some v) : Q1 P e0 U l L ⟨dd, .load t ox, ty, pos, af, g⟩ v := by
  intro a w hf hs
  simp [execOp, hf.ev hx, Instr.loadAt, Instr.sureAddr, loadVar, hg, hv w hs]
theorem q_loadXs {t z : Nat} {p : Addr} (vs : List Value) {ox : Operand} {ty : TypeId} {pos : String} {af : Array Edge} {g : Option (Nat × Bool)} {dd : Option Nat} (hx : E l ox = some (.pointer (some p))) (hg : ∀ w, (isAgg t).run P w = .ok true w) (hz : ∀ w, (sizeOf t).run P w = .ok z w) (hv : ∀ w, Sta e0 U L w → ∀ j v, vs[j]? = some v → w.cell? (p.add j) = some v) (hn : z = vs.length) : Q1 P e0 U l L ⟨dd, .load t ox, ty, pos, af, g⟩ (.agg vs.toArray) := by
  intro a w hf hs
  have hc := run_loadCells_list (P := P) (w := w) p vs (hv w hs)
  simp [execOp, hf.ev hx, Instr.loadAt, Instr.sureAddr, loadVar, hg, hz, hc, hn]
theorem q_makeFunc {f : FuncId} {fi ca : Array Operand} (vf vc : List Value) {ty : TypeId} {pos : String} {af : Array Edge} {g : Option (Nat × Bool)} {dd : Option Nat} (h1 : Es l fi.toList vf) (h2 : Es l ca.toList vc) : Q1 P e0 U l L ⟨dd, .makeFunc (.func f) fi ca, ty, pos, af, g⟩ (.func (.func f) vf.toArray vc.toArray) := by
  intro a w hf hs
  have e1 : fi.map a.eval = vf.toArray := Array.ext' (by simp [Es.map hf h1])
  have e2 : ca.map a.eval = vc.toArray := Array.ext' (by simp [Es.map hf h2])
  simp [execOp, Instr.makeFunc, e1, e2]
end
end
section
set_option autoImplicit false
open Go.RowKit
section
variable {P : Program} {e0 : Cfg} {U : Snaps} {l : Slots} {L : Boxes} {ops : Array Oper} {Q : Exit → Act → World → Prop} {rest : List Oper} {d : Nat}
variable {ty : TypeId} {pos : String} {af : Array Edge} {g : Option (Nat × Bool)} {dd : Option Nat}
theorem run_newVar (P : Program) (t : TypeId) (v : Value) (cs : List Value) (hc : v.cells = cs.toArray) (w : World) : (newVar t v).run P w = .ok ⟨w.heap.size, 0, none⟩ (w.alloc (.cells cs.toArray t)) := by
  simp [newVar, newRow, hc]
theorem al_new {o : Oper} {cs : List Value} {t : TypeId} (f : Nat → Value) (hr : ∀ a w, Fr e0 l a → Sta e0 U L w → (execOp a.eval o).run P w = .ok (.value (f w.heap.size)) (w.alloc (.cells cs.toArray t)))
    (hd : o.dst = some d) (hn : Nat.blt d e0.n = true) (hw : want ops l o.guard = some true)
    (k : ∀ b, AL P ops Q e0 U ((d, f b) :: l) ((b, .cells cs) :: L) rest) : AL P ops Q e0 U l L (o :: rest) := by
  intro a w hf hs
  unfold wpList
  rw [if_pos (want_ok hf hw)]
  refine Or.inl ?_
  unfold Oper.wp
  rw [hr a w hf hs]
  show wpList P ops Q rest (a.put o.dst (f w.heap.size)) _
  rw [hd]
  exact k w.heap.size _ _ (hf.put hn _) (hs.alloc cs t)
theorem r_box {t : TypeId} {x : Operand} {v : Value} {cs : List Value} (hx : E l x = some v) (hc : v.cells = cs.toArray) (a : Act) (w : World) (hf : Fr e0 l a) (hs : Sta e0 U L w) :
    (execOp a.eval ⟨dd, .box t x, ty, pos, af, g⟩).run P w = .ok (.value (.pointer (some ⟨w.heap.size, 0, none⟩))) (w.alloc (.cells cs.toArray t)) := by
  simp [execOp, Instr.box, hf.ev hx, run_newVar P t v cs hc]
theorem r_alloc {t : TypeId} {z : Value} {cs : List Value} (hz : ∀ w, (zeroValue t).run P w = .ok z w) (hc : z.cells = cs.toArray) (a : Act) (w : World) (hf : Fr e0 l a) (hs : Sta e0 U L w) :
    (execOp a.eval ⟨dd, .alloc t, ty, pos, af, g⟩).run P w = .ok (.value (.pointer (some ⟨w.heap.size, 0, none⟩))) (w.alloc (.cells cs.toArray t)) := by
  simp [execOp, Instr.alloc, hz, run_newVar P t z cs hc]
theorem run_storeCells (P : Program) (e0 : Cfg) (U : Snaps) (i b : Nat) : ∀ (vs : List Value) (L : Boxes) (cs : List Value) (o j : Nat) (w : World), Sta e0 U L w → L[i]? = some (b, .cells cs) → o + j + vs.length ≤ cs.length → (∀ v ∈ vs, v.oneCell' = true) →
    ∃ w', (storeCells ⟨b, o, none⟩ vs j).run P w = .ok () w' ∧ Sta e0 U (L.set i (b, .cells (cs.take (o + j) ++ vs ++ cs.drop (o + j + vs.length)))) w' := by
  intro vs
  induction vs with
  | nil =>
    intro L cs o j w hs hi hl hv
    refine ⟨w, rfl, ?_⟩
    have : L.set i (b, .cells (cs.take (o + j) ++ [] ++ cs.drop (o + j + ([] : List Value).length))) = L := by
      simp only [List.append_nil, List.length_nil, Nat.add_zero, List.take_append_drop]
      apply List.ext_getElem?
      intro m
      rw [List.getElem?_set]
      split
      · rename_i h; subst h
        have hlt : i < L.length := by
          rcases Nat.lt_or_ge i L.length with h | h
          · exact h
          · rw [List.getElem?_eq_none h] at hi; cases hi
        rw [if_pos hlt, hi]
      · rfl
    rw [this]; exact hs
  | cons v vs ih =>
    intro L cs o j w hs hi hl hv
    simp only [List.length_cons] at hl
    have hk : o + j < cs.length := by omega
    have hcell := hs.cell hi (List.getElem?_eq_getElem hk)
    have hfree := hs.free hi (List.getElem?_eq_getElem hk)
    have h1 := hs.store hi (o + j) hk v
    have hlt : i < L.length := by
      rcases Nat.lt_or_ge i L.length with h | h
      · exact h
      · rw [List.getElem?_eq_none h] at hi; cases hi
    obtain ⟨w', hr, hst⟩ := ih (L.set i (b, .cells (cs.set (o + j) v))) (cs.set (o + j) v) o (j + 1) _ h1 (by simp [List.getElem?_set, hlt]) (by simp; omega) (fun u hu => hv u (List.mem_cons_of_mem _ hu))
    refine ⟨w', ?_, ?_⟩
    · simp only [storeCells, addr_add, Sem.run_bind]
      have hone : v.oneCell' = true := hv v (List.mem_cons_self ..)
      rw [run_store P w ⟨b, o + j, none⟩ v .plain hone]
      rw [hcell]
      simp only [hfree]
      simpa using hr
    · rw [List.set_set] at hst
      have e : (cs.set (o + j) v).take (o + (j + 1)) ++ vs ++ (cs.set (o + j) v).drop (o + (j + 1) + vs.length) = cs.take (o + j) ++ v :: vs ++ cs.drop (o + j + (v :: vs).length) := by
        have e1 : (cs.set (o + j) v).take (o + (j + 1)) = cs.take (o + j) ++ [v] := by
          rw [show o + (j + 1) = (o + j) + 1 by omega, List.take_succ_eq_append_getElem (by simpa using hk), List.take_set_of_le (by omega)]
          simp
        rw [e1, List.drop_set_of_lt (by omega)]
        simp [show o + (j + 1) + vs.length = o + j + (vs.length + 1) by omega]
      rw [e] at hst
      exact hst
theorem al_store {t b o z i : Nat} {cs : List Value} {vs : List Value} {v : Value} (cs' : List Value) {ox oy : Operand} (hx : E l ox = some (.pointer (some ⟨b, o, none⟩))) (hy : E l oy = some v) (hvs : v.cells = vs.toArray) (hi : L[i]? = some (b, .cells cs))
    (hz : ∀ w, (sizeOf t).run P w = .ok z w) (hlen : vs.length = z) (hl : Nat.ble (o + z) cs.length = true) (hone : vs.all Value.oneCell' = true) (hcs : cs' = cs.take o ++ vs ++ cs.drop (o + vs.length)) (L' : Boxes) (hL' : L' = L.set i (b, .cells cs'))
    (hw : want ops l g = some true)
    (k : AL P ops Q e0 U l L' rest) : AL P ops Q e0 U l L (⟨none, .store t ox oy, ty, pos, af, g⟩ :: rest) := by
  intro a w hf hs
  unfold wpList
  rw [if_pos (want_ok hf hw)]
  refine Or.inl ?_
  unfold Oper.wp
  have hl' : o + z ≤ cs.length := by simpa using hl
  obtain ⟨w', hr, hst⟩ := run_storeCells P e0 U i b vs L cs o 0 w hs hi (by omega) (by simpa using hone)
  have hrun : (execOp a.eval ⟨none, .store t ox oy, ty, pos, af, g⟩).run P w = .ok .skip w' := by
    simp [execOp, Instr.storeAt, Instr.sureAddr, hf.ev hx, hf.ev hy, storeVar, hvs, hz, hlen, hr]
  rw [hrun]
  show wpList P ops Q rest (a.put none undef) w'
  simp only [Nat.add_zero] at hst
  rw [← hcs, ← hL'] at hst
  exact k a w' hf hst
theorem al_call {f : FuncId} {xs : List Operand} {vs : List Value} {ats : Array TypeId} (hcall : ∀ (args : Array Value) (w : World), (callFunc f args).run P w = .ok (.enter f args) w) (hxs : Es l xs vs)
    (hn : Nat.blt d e0.n = true) (hw : want ops l g = some true)
    (k : ∀ w, Sta e0 U L w → Calls P f vs.toArray w (fun e w' => ∃ v, e = .returned v ∧ Below w.heap.size w w' ∧ AL P ops Q e0 ((w.heap.size, w') :: U) ((d, v) :: l) L rest)) :
    AL P ops Q e0 U l L (⟨some d, .call ⟨.value (.func f), xs.toArray, ats⟩, ty, pos, af, g⟩ :: rest) := by
  intro a w hf hs
  unfold wpList
  rw [if_pos (want_ok hf hw)]
  refine Or.inl ?_
  unfold Oper.wp
  have hargs : xs.toArray.map a.eval = vs.toArray := Array.ext' (by simp [Es.map hf hxs])
  have hrun : (execOp a.eval ⟨some d, .call ⟨.value (.func f), xs.toArray, ats⟩, ty, pos, af, g⟩).run P w = .ok (.enter f vs.toArray) w := by
    have hfn : a.eval (.func f) = .func (.func f) #[] #[] := rfl
    simp only [execOp, resolve, hargs, hfn, Deferred.ofValue]
    simp [invoke, hcall]
  rw [hrun, Oper.upon_enter]
  refine (k w hs).mono ?_
  rintro e w' ⟨v, rfl, hb, hk⟩
  exact hk _ _ (hf.put hn v) (hs.call hb)
theorem al_callS {f : FuncId} {xs : List Operand} {vs : List Value} {ats : Array TypeId} (hcall : ∀ (args : Array Value) (w : World), (callFunc f args).run P w = .ok (.enter f args) w) (hxs : Es l xs vs)
    (hn : Nat.blt d e0.n = true) (hw : want ops l g = some true)
    (k : ∀ w, Sta e0 U L w → Calls P f vs.toArray w (fun e w' => ∃ v U' L', e = .returned v ∧ Sta e0 U' L' w' ∧ AL P ops Q e0 U' ((d, v) :: l) L' rest)) :
    AL P ops Q e0 U l L (⟨some d, .call ⟨.value (.func f), xs.toArray, ats⟩, ty, pos, af, g⟩ :: rest) := by
  intro a w hf hs
  unfold wpList
  rw [if_pos (want_ok hf hw)]
  refine Or.inl ?_
  unfold Oper.wp
  have hargs : xs.toArray.map a.eval = vs.toArray := Array.ext' (by simp [Es.map hf hxs])
  have hrun : (execOp a.eval ⟨some d, .call ⟨.value (.func f), xs.toArray, ats⟩, ty, pos, af, g⟩).run P w = .ok (.enter f vs.toArray) w := by
    have hfn : a.eval (.func f) = .func (.func f) #[] #[] := rfl
    simp only [execOp, resolve, hargs, hfn, Deferred.ofValue]
    simp [invoke, hcall]
  rw [hrun, Oper.upon_enter]
  refine (k w hs).mono ?_
  rintro e w' ⟨v, U', L', rfl, hs', hk⟩
  exact hk _ _ (hf.put hn v) hs'
theorem al_callV {f : FuncId} {of : Operand} {fi ca : List Value} {xs : List Operand} {vs : List Value} {ats : Array TypeId} (hof : E l of = some (.func (.func f) fi.toArray ca.toArray)) (hcall : ∀ (args : Array Value) (w : World), (callFunc f args).run P w = .ok (.enter f args) w) (hxs : Es l xs vs)
    (hn : Nat.blt d e0.n = true) (hw : want ops l g = some true)
    (k : ∀ w, Sta e0 U L w → Calls P f (fi ++ vs ++ ca).toArray w (fun e w' => ∃ v, e = .returned v ∧ Below w.heap.size w w' ∧ AL P ops Q e0 ((w.heap.size, w') :: U) ((d, v) :: l) L rest)) :
    AL P ops Q e0 U l L (⟨some d, .call ⟨.value of, xs.toArray, ats⟩, ty, pos, af, g⟩ :: rest) := by
  intro a w hf hs
  unfold wpList
  rw [if_pos (want_ok hf hw)]
  refine Or.inl ?_
  unfold Oper.wp
  have hargs : xs.toArray.map a.eval = vs.toArray := Array.ext' (by simp [Es.map hf hxs])
  have hrun : (execOp a.eval ⟨some d, .call ⟨.value of, xs.toArray, ats⟩, ty, pos, af, g⟩).run P w = .ok (.enter f (fi ++ vs ++ ca).toArray) w := by
    simp only [execOp, resolve, hargs, hf.ev hof, Deferred.ofValue]
    simp [invoke, hcall]
  rw [hrun, Oper.upon_enter]
  refine (k w hs).mono ?_
  rintro e w' ⟨v, rfl, hb, hk⟩
  exact hk _ _ (hf.put hn v) (hs.call hb)
end
section
variable {P : Program} {e0 : Cfg} {U : Snaps} {l : Slots} {L : Boxes} {ops : Array Oper} {Q : Exit → Act → World → Prop} {rest : List Oper}
theorem ac_seq {x y : Code} (k : AC P e0 U l L x (Exit.then (y.wp P Q) Q)) : AC P e0 U l L (.seq x y) Q := fun a w hf hs => wp_seq (k a w hf hs)
theorem ac_region {id : Nat} {os : List Oper} (k : AL P os.toArray Q e0 U l L os) : AC P e0 U l L (.region id os.toArray false) Q := fun a w hf hs => wp_region_lit (k a w hf hs)
theorem al_end (k : AQ e0 U l L (Q .normal)) : AL P ops Q e0 U l L [] := fun a w hf hs => wpList_nil (k a w hf hs)
theorem aq_then {X : Act → World → Prop} (k : AQ e0 U l L X) : AQ e0 U l L (Exit.then X Q .normal) := k
theorem aq_inN {id : Nat} (k : AQ e0 U l L (Q .normal)) : AQ e0 U l L (Exit.inBlock id Q .normal) := k
theorem aq_thenR {X : Act → World → Prop} (k : AQ e0 U l L (Q .ret)) : AQ e0 U l L (Exit.then X Q .ret) := k
theorem aq_inR {id : Nat} (k : AQ e0 U l L (Q .ret)) : AQ e0 U l L (Exit.inBlock id Q .ret) := k
theorem aq_thenE {X : Act → World → Prop} {id : Nat} (k : AQ e0 U l L (Q (.exit id))) : AQ e0 U l L (Exit.then X Q (.exit id)) := k
theorem aq_hit {id : Nat} (k : AQ e0 U l L (Q .normal)) : AQ e0 U l L (Exit.inBlock id Q (.exit id)) := fun a w hf hs => by
  show if id = id then _ else _
  rw [if_pos rfl]; exact k a w hf hs
theorem aq_miss {id id' : Nat} (h : Nat.beq id' id = false) (k : AQ e0 U l L (Q (.exit id'))) : AQ e0 U l L (Exit.inBlock id Q (.exit id')) := fun a w hf hs => by
  show if id' = id then _ else _
  rw [if_neg (fun e => by subst e; simp at h)]; exact k a w hf hs
theorem ac_skip (k : AQ e0 U l L (Q .normal)) : AC P e0 U l L .skip Q := fun a w hf hs => wp_skip (k a w hf hs)
theorem ac_ret (k : AQ e0 U l L (Q .ret)) : AC P e0 U l L .ret Q := fun a w hf hs => wp_ret (k a w hf hs)
theorem ac_exit {id : Nat} (k : AQ e0 U l L (Q (.exit id))) : AC P e0 U l L (.exit id) Q := fun a w hf hs => wp_exit (k a w hf hs)
theorem ac_block {id : Nat} {c : Code} (k : AC P e0 U l L c (Exit.inBlock id Q)) : AC P e0 U l L (.block id c) Q := fun a w hf hs => wp_block (k a w hf hs)
theorem ac_cond {c : Operand} {x y : Code} {b : Bool} (hc : E l c = some (.bool b)) (kt : b = true → AC P e0 U l L x Q) (kf : b = false → AC P e0 U l L y Q) : AC P e0 U l L (.cond c x y) Q :=
  fun a w hf hs => wp_cond_split (hf.ev hc) (fun h => kt h a w hf hs) (fun h => kf h a w hf hs)
theorem ac_condT {c : Operand} {x y : Code} (hc : E l c = some (.bool true)) (k : AC P e0 U l L x Q) : AC P e0 U l L (.cond c x y) Q := fun a w hf hs => wp_cond_true (hf.ev hc) (k a w hf hs)
theorem ac_condF {c : Operand} {x y : Code} (hc : E l c = some (.bool false)) (k : AC P e0 U l L y Q) : AC P e0 U l L (.cond c x y) Q := fun a w hf hs => wp_cond_false (hf.ev hc) (k a w hf hs)
theorem wp_loop_x {β : Type} {c : Code} (I : β → Act → World → Prop) (μ : β → Nat) (x0 : β) {a : Act} {w : World} (h₀ : I x0 a w)
    (round : ∀ x a w, I x a w → c.wp P (Exit.then (fun a' w' => ∃ y, μ y < μ x ∧ I y a' w') Q) a w) : (Code.loop c).wp P Q a w := by
  intro b k cs
  have key : ∀ m x a w, μ x = m → I x a w →
      ∃ e a' w', Q e a' w' ∧ Arrives P (lone (b.at a (.code c :: .inLoop c :: k)) cs w) b k cs e a' w' := by
    intro m
    induction m using Nat.strongRecOn with
    | _ m ih =>
      intro x a w hn hI
      obtain ⟨e, a₁, w₁, hq, harr⟩ := round x a w hI b (.inLoop c :: k) cs
      cases e with
      | normal =>
        obtain ⟨y, hlt, hI₁⟩ := hq
        obtain ⟨e₂, a₂, w₂, hq₂, harr₂⟩ := ih (μ y) (hn ▸ hlt) y a₁ w₁ rfl hI₁
        exact ⟨e₂, a₂, w₂, hq₂, .of_steps (Steps.trans harr (.one step_inLoop)) harr₂⟩
      | exit id => exact ⟨_, a₁, w₁, hq, .pass (x := .inLoop c) rfl (fun _ _ => .inl (by simp)) harr⟩
      | goto l => exact ⟨_, a₁, w₁, hq, .pass (x := .inLoop c) rfl (fun _ _ => .inl (by simp)) harr⟩
      | ret => exact ⟨_, a₁, w₁, hq, .pass (x := .inLoop c) rfl (fun _ _ => .inl (by simp)) harr⟩
      | panic ch => exact ⟨_, a₁, w₁, hq, .pass (x := .inLoop c) rfl (fun _ _ => .inl (by simp)) harr⟩
      | outgrown => exact ⟨_, a₁, w₁, hq, .pass (x := .inLoop c) rfl (fun _ _ => .inl (by simp)) harr⟩
  obtain ⟨e, a', w', hq, harr⟩ := key _ x0 a w rfl h₀
  exact ⟨e, a', w', hq, .of_steps (.one step_loop) harr⟩
theorem ac_loop {β : Type} {c : Code} (F : β → Prop) (S : β → Slots) (V : β → Snaps) (M : β → Boxes) (μ : β → Nat) (x0 : β) (h0 : F x0) (hl : AllLook l (S x0)) (hL : ∀ w, Sta e0 U L w → Sta e0 (V x0) (M x0) w)
    (round : ∀ x, F x → AC P e0 (V x) (S x) (M x) c (Exit.then (fun a w => ∃ y, μ y < μ x ∧ F y ∧ Fr e0 (S y) a ∧ Sta e0 (V y) (M y) w) Q)) : AC P e0 U l L (.loop c) Q :=
  fun a w hf hs => wp_loop_x (fun x a w => F x ∧ Fr e0 (S x) a ∧ Sta e0 (V x) (M x) w) μ x0 ⟨h0, hf.sub hl.sub, hL w hs⟩ (fun x a w ⟨hF, hf, hs⟩ => round x hF a w hf hs)
theorem aq_round {β : Type} {F : β → Prop} {S : β → Slots} {V : β → Snaps} {M : β → Boxes} {μ : β → Nat} {x : β} (y : β) (hm : μ y < μ x) (hF : F y) (hl : AllLook l (S y)) (hL : ∀ w, Sta e0 U L w → Sta e0 (V y) (M y) w) :
    AQ e0 U l L (fun a w => ∃ y, μ y < μ x ∧ F y ∧ Fr e0 (S y) a ∧ Sta e0 (V y) (M y) w) := fun a w hf hs => ⟨y, hm, hF, hf.sub hl.sub, hL w hs⟩
theorem ret1 {n : Nat} {w0 : World} {bs : List Nat} {fn : Func} {R : Ending → World → Prop} {t : Nat} {v : Value} (hr : fn.results = #[.tmp t]) (hv : look l t = some v) (k : ∀ w, Sta ⟨n, [], w0, bs⟩ U L w → R (.returned v) w) : AQ ⟨n, [], w0, bs⟩ U l L (bodyPost P fn R .ret) := fun a w hf hs => by
  refine bodyPost_ret (results_tmp hr _ _ _) hf.defers ?_
  have := hf.slot t v hv
  simp only [Array.getD_eq_getD_getElem?, this, Option.getD_some]
  exact k w hs
theorem ret2 {n : Nat} {w0 : World} {bs : List Nat} {fn : Func} {R : Ending → World → Prop} {t t' : Nat} {v v' : Value} (hr : fn.results = #[.tmp t, .tmp t']) (hv : look l t = some v) (hv' : look l t' = some v') (k : ∀ w, Sta ⟨n, [], w0, bs⟩ U L w → R (.returned (.tuple #[v, v'])) w) : AQ ⟨n, [], w0, bs⟩ U l L (bodyPost P fn R .ret) := fun a w hf hs => by
  refine bodyPost_ret (results_tmp2 hr _ _ _) hf.defers ?_
  have h1 := hf.slot t v hv
  have h2 := hf.slot t' v' hv'
  simp only [Array.getD_eq_getD_getElem?, h1, h2, Option.getD_some]
  exact k w hs
theorem calls_ax {f : FuncId} {fn : Func} {c : Code} {vs : List Value} {w : World} {R : Ending → World → Prop} (hf : P.funcs[f]? = some fn) (hb : fn.body = some c) (hn : Nat.ble vs.length fn.ntmps = true)
    (k : AC P ⟨fn.ntmps, [], w, []⟩ [] (num 0 vs) [] c (bodyPost P fn R)) : Calls P f vs.toArray w R :=
  calls_of_wp hf hb (k _ w (Fr.start fn.ntmps w [] vs hn) (Sta.start _ _ w))
end
end
end Go.Proofs.YtogcjgjhmlifgaaGreat
