import Derived.Test.YtkhahbnagbjbiaaGreatNAO
import Derived.Test.YtkhahbnagbjbiaaGreatNAP
import Derived.Laws.Small
section
/- Abstract walking: cells of what a callee has made; tails that change places; rows of rows (Kernel). -/
namespace Go.Proofs.YtkhahbnagbjbiaaGreat
set_option linter.unusedVariables false
set_option linter.unusedSimpArgs false
set_option autoImplicit false
open Go.RowKit

/-- the influences of a cell on all cells -/
def rowK (g : GridD) (n i : Nat) : List Int := (List.range n).map fun (j : Nat) => infl (cellR g i) (cellZ g i) (cellR g j) (cellZ g j)
theorem rowK_length (g : GridD) (n i : Nat) : (rowK g n i).length = n := by simp [rowK]
/-- a list of slices of n items each -/
def slcs (n : Nat) (r : Option Addr × Nat) : List Value := [.slice r.1 n r.2]
/-- rows that lie among these boxes -/
def RowsIn (g : GridD) (n : Nat) (G : Boxes) (rows : List (Option Addr × Nat)) : Prop := ∀ (i : Nat) r, rows[i]? = some r → ∃ b sp, r.1 = some ⟨b, 0, none⟩ ∧ (b, Cont.cells ((rowK g n i).map (Value.int .i64) ++ sp)) ∈ G ∧ n ≤ r.2 ∧ r.2 ≤ 9223372036854775807
theorem RowsIn.snoc {g : GridD} {n : Nat} {G : Boxes} {rows : List (Option Addr × Nat)} (h : RowsIn g n G rows) {o : Gr} {cs : List Value} (hg : gok o n 1 cs) (hn : 0 < n) (hcs : cs = (rowK g n rows.length).map (Value.int .i64)) : RowsIn g n (gt o cs ++ G) (rows ++ [(gA o, gC o)]) := by
  intro i r hr
  rcases Nat.lt_or_ge i rows.length with g1 | g1
  · rw [List.getElem?_append_left g1] at hr
    obtain ⟨b, sp, e, hm, h1⟩ := h i r hr
    exact ⟨b, sp, e, List.mem_append_right _ hm, h1⟩
  · rw [List.getElem?_append_right g1] at hr
    have hi : i - rows.length = 0 := by
      have := (List.getElem?_eq_some_iff.1 hr).1
      simp only [List.length_cons, List.length_nil] at this; omega
    rw [hi] at hr
    obtain rfl : (gA o, gC o) = r := by simpa using hr
    obtain ⟨b, c, sp, rfl⟩ := hg.some hn
    obtain ⟨h1, h2, h3⟩ := hg.own b c sp rfl
    refine ⟨b, sp, rfl, List.mem_append_left _ ?_, h1, h2⟩
    rw [show i = rows.length by omega, ← hcs]; simp [gt]
theorem Sta.rowK {N : Nat} {D : List Deferred} {w0 w : World} {U : Snaps} {L G : Boxes} {g : GridD} {n : Nat} {rows : List (Option Addr × Nat)} (h : Sta ⟨N, D, w0, []⟩ U L w) (hG : ∀ x ∈ G, x ∈ L) (hr : RowsIn g n G rows) : ∀ (i : Nat) r, rows[i]? = some r → NewT 1 intCells w0.heap.size w r.1 n r.2 (rowK g n i) := by
  intro i r hi
  obtain ⟨b, sp, e, hm, h1, h2⟩ := hr i r hi
  obtain ⟨j, hj⟩ := List.getElem?_of_mem (hG _ hm)
  refine ⟨?_, fun b' off e' => ?_, h1, h2⟩
  · rw [e]; exact isT_box (n := 1) (enc := intCells) (fun _ => rfl) (h.at j hj) (flat_int _) (rowK_length _ _ _)
  · rw [e] at e'; cases e'
    rcases (h.box j _ _ hj).1 with g1 | g1
    · exact g1
    · cases g1

end Go.Proofs.YtkhahbnagbjbiaaGreat
end
section
/- Abstract walking: min and max, lists among the tails that are written to, gifts behind the boxes. -/
namespace Go.Proofs.YtkhahbnagbjbiaaGreat
set_option linter.unusedVariables false
set_option linter.unusedSimpArgs false
set_option autoImplicit false
open Go.RowKit

section
variable {P : Program} {e0 : Cfg} {U : Snaps} {l : Slots} {L : Boxes} {ops : Array Oper} {Q : Exit → Act → World → Prop} {rest : List Oper} {d : Nat} {v : Value}
variable {ty : TypeId} {pos : String} {af : Array Edge} {g : Option (Nat × Bool)} {dd : Option Nat}

theorem q_max {ox oy : Operand} {x y : Int} {ts : Array TypeId} (hx : E l ox = some (.int .i64 x)) (hy : E l oy = some (.int .i64 y)) : Q1 P e0 U l L ⟨dd, .call ⟨.builtin .max, #[ox, oy], ts⟩, ty, pos, af, g⟩ (.int .i64 (max x y)) := by
  intro a w hf hs
  have e : (if y > x then y else x) = max x y := by omega
  simp [execOp, resolve, invoke, hf.ev hx, hf.ev hy, builtin, run_max_int2, run_min_int2, Result.andThen, e]
theorem q_min {ox oy : Operand} {x y : Int} {ts : Array TypeId} (hx : E l ox = some (.int .i64 x)) (hy : E l oy = some (.int .i64 y)) : Q1 P e0 U l L ⟨dd, .call ⟨.builtin .min, #[ox, oy], ts⟩, ty, pos, af, g⟩ (.int .i64 (min x y)) := by
  intro a w hf hs
  have e : (if y < x then y else x) = min x y := by omega
  simp [execOp, resolve, invoke, hf.ev hx, hf.ev hy, builtin, run_max_int2, run_min_int2, Result.andThen, e]
end
/-- one cell as a list's -/
theorem one_fact {w : World} {b : Nat} {u : Value} (h : w.cell? ⟨b, 0, none⟩ = some u) : ∀ (j : Nat) (v : Value), ([u] : List Value)[j]? = some v → w.cell? ⟨b, 0 + j, none⟩ = some v := fun j v hv => by
  rcases j with _ | j
  · rw [← Option.some.inj hv]; exact h
  · simp at hv
theorem Tl.app {L1 X G L : Boxes} (h : Tl L1 (X ++ G) L) : Tl (L1 ++ X) G L := by
  have := h.eq
  subst this
  clear h
  induction L1 with
  | nil => induction X with
    | nil => exact .z
    | cons x r ih => exact .s ih
  | cons x r ih => exact .s ih
theorem Tl.of {L1 G L : Boxes} (h : L = L1 ++ G) : Tl L1 G L := by
  subst h
  induction L1 with
  | nil => exact .z
  | cons x r ih => exact .s ih
section
variable {P : Program} {e0 : Cfg} {U : Snaps} {l : Slots} {L : Boxes} {ops : Array Oper} {Q : Exit → Act → World → Prop} {rest : List Oper} {d : Nat} {v : Value}
variable {ty : TypeId} {pos : String} {af : Array Edge} {g : Option (Nat × Bool)} {dd : Option Nat}
/-- a store into a list among the tails -/
theorem al_storeG {t b k c : Nat} {o : Gr} {cs sp : List Value} {L1 G L' : Boxes} {ox oy : Operand} (ho : o = some (b, c, sp)) (hx : E l ox = some (.pointer (some ⟨b, k, none⟩))) (hy : E l oy = some v) (hone : v.oneCell' = true) (hT : Tl L1 (gt o cs ++ G) L) (hk : k < cs.length)
    (hz : ∀ w, (sizeOf t).run P w = .ok 1 w) (hT' : Tl L1 (gt o (cs.set k v) ++ G) L') (hw : want ops l g = some true)
    (kk : AL P ops Q e0 U l L' rest) : AL P ops Q e0 U l L (⟨none, .store t ox oy, ty, pos, af, g⟩ :: rest) := by
  subst ho
  have hL := hT.eq
  have hL' := hT'.eq
  simp only [gt, List.singleton_append] at hL hL'
  refine al_store1 (i := L1.length) (cs := cs ++ sp) (cs' := cs.set k v ++ sp) (b := b) (o := k) (L' := L') hx hy hone (by rw [hL]; simp) hz ?_ ?_ hw kk
  · rw [← List.set_append_left _ _ hk]; exact SetAt.gen (by simp; omega)
  · rw [hL, hL']
    have : L1 ++ (b, Cont.cells (cs.set k v ++ sp)) :: G = (L1 ++ (b, Cont.cells (cs ++ sp)) :: G).set L1.length (b, Cont.cells (cs.set k v ++ sp)) := by simp
    rw [this]
    exact SetAt.gen (by simp)
end
/-- what a call made and left is the caller's, between the boxes and what lies behind them -/
theorem Sta.giftF {E : Cfg} {U : Snaps} {L L1 G M L' : Boxes} {w w' : World} (h : Sta E U L w) (hT : Tl L1 G L) (g : Own w M w') (hT' : Tl L1 (M ++ G) L') : Sta E U L' w' := (h.gift g).perm (by
  rw [hT.eq, hT'.eq, ← List.append_assoc, ← List.append_assoc]
  exact List.Perm.append_right _ List.perm_append_comm)
/-- what a call made and left is the caller's, behind the boxes -/
theorem Sta.giftT {E : Cfg} {U : Snaps} {L M : Boxes} {w w' : World} (h : Sta E U L w) (g : Own w M w') : Sta E U (L ++ M) w' := (h.gift g).perm List.perm_append_comm

end Go.Proofs.YtkhahbnagbjbiaaGreat
end
