import Derived.Test.YtogcjgjhmlifgaaGreatKAG
import Derived.Test.YtogcjgjhmlifgaaGreatKAM
import Derived.Test.YtogcjgjhmlifgaaGreatKAN
import Derived.Test.YtogcjgjhmlifgaaGreatKAP
import Derived.Test.YtogcjgjhmlifgaaGreatKAQ
import Derived.Test.YtogcjgjhmlifgaaGreatKAR
import Derived.Test.YtogcjgjhmlifgaaGreatRows
import Derived.KernelRfl
import Derived.Laws.StructEq
import Derived.Laws.Small
namespace Go.Proofs.YtogcjgjhmlifgaaGreat
set_option linter.unusedVariables false
set_option linter.unusedSimpArgs false
section
open Go.RowKit Go.Shelf
end
section
open Go.RowKit
end
section
open Go.RowKit
theorem cel_bl_apiPoint_ : ∀ w, (Instr.build 36 #[]).run Tryz.prog w = .ok (.agg #[(.int .i64 0), (.int .i64 0)]) w := by
  intro w; simp [Instr.build, Instr.fill, cells_agg, Tryz.runUnderlying36, Tryz.zeroValue36, Tryz.sizeOf3]
set_option maxRecDepth 100000 in
theorem mcell9_any (R : MachR) (M : MachD) (i : Int) (w : World) (hM : IsM w R M) : Calls Tryz.prog 153 #[(.agg (machCells R M)), (.int .i64 i)] w (Ret (.tuple #[.agg #[.int .i64 (cellL M i).1, .int .i64 (cellL M i).2.1], .int .i64 (cellL M i).2.2]) w) := by
  refine calls_ax (vs := [(.agg (machCells R M)), (.int .i64 i)]) Tryz.func153 rfl rfl ?_
  refine ac_seq (ac_region ?_)
  refine al_new (fun b => .pointer (some ⟨b, 0, none⟩)) (r_box rfl rfl) rfl rfl rfl ?_
  intro b1
  refine al_new (fun b => .pointer (some ⟨b, 0, none⟩)) (r_alloc Tryz.zeroValue36 rfl) rfl rfl rfl ?_
  intro b2
  refine al_p (q_assign rfl) (al_end (aq_then ?_))
  refine ac_seq (ac_seq (ac_region ?_))
  refine al_p (q_loadAll (i := 1) rfl rfl Tryz.isAgg29 Tryz.sizeOf29 rfl) (al_call Tryz.call88 (.cons rfl .nil) rfl rfl (fun w1 hs1 => ?_))
  refine (check_any R M _ (hM.below hs1.below)).mono ?_
  rintro e u1 ⟨rfl, hb_1⟩
  refine ⟨_, rfl, hb_1, ?_⟩
  clear hs1
  refine al_p (q_neq rfl rfl) (al_end (aq_then ?_))
  refine ac_cond rfl (fun h1 => ?_) (fun h1 => ?_)
  · have hc : checkC M ≠ 0 := by simpa using h1
    refine ac_seq (ac_region ?_)
    refine al_p (q_build .nil (cel_bl_apiPoint_)) (al_storeAll (i := 0) rfl rfl rfl rfl Tryz.sizeOf36 rfl rfl .k0 rfl (al_p (q_assign rfl) (al_end (aq_then ?_))))
    refine ac_ret (aq_thenR (retR Tryz.results153 (.agg (i := 0) rfl rfl Tryz.isAgg36 Tryz.sizeOf36 rfl (.tmp rfl .nil)) .two (fun w9 hs => ?_)))
    unfold cellL; rw [if_neg hc]; exact ⟨rfl, hs.below⟩
  · have hc : checkC M = 0 := by simpa using h1
    have hf := check_fine hc
    have hfc := fine_cells hf
    refine ac_skip (aq_then (ac_seq (ac_seq (ac_region ?_))))
    refine al_p (q_move rfl) ?_
    refine al_p (q_fieldAddr 4 rfl Tryz.runUnderlying29 rfl Tryz.sizeOf26 (by decide) rfl) (al_p (q_loadSub (i := 1) rfl rfl Tryz.isAgg26 Tryz.sizeOf26 .k4 .k5) (al_call Tryz.call90 (.cons rfl .nil) rfl rfl (fun w2 hs2 => ?_)))
    refine (cells_any M.grid _ (by omega) (by omega)).mono ?_
    rintro e u2 ⟨rfl, hb_2⟩
    refine ⟨_, rfl, hb_2, ?_⟩
    clear hs2
    refine al_p (q_sub rfl rfl (by omega)) (al_call Tryz.call146 (.cons rfl (.cons rfl (.cons rfl .nil))) rfl rfl (fun w3 hs3 => ?_))
    refine (mwithin_any i 0 (M.grid.nr * M.grid.nz - 1) _).mono ?_
    rintro e u3 ⟨rfl, rfl⟩
    refine ⟨_, rfl, (Below.refl _ _), ?_⟩
    clear hs3
    refine al_p (q_not rfl) (al_end (aq_then ?_))
    refine ac_cond rfl (fun h2 => ?_) (fun h2 => ?_)
    · have hi : wthn i 0 (M.grid.nr * M.grid.nz - 1) = false := by simpa using h2
      refine ac_seq (ac_region ?_)
      refine al_p (q_build .nil (cel_bl_apiPoint_)) (al_storeAll (i := 0) rfl rfl rfl rfl Tryz.sizeOf36 rfl rfl .k0 rfl (al_p (q_assign rfl) (al_end (aq_then ?_))))
      refine ac_ret (aq_thenR (retR Tryz.results153 (.agg (i := 0) rfl rfl Tryz.isAgg36 Tryz.sizeOf36 rfl (.tmp rfl .nil)) .two (fun w9 hs => ?_)))
      unfold cellL; rw [if_pos hc, if_neg (by rw [hi]; decide)]; exact ⟨rfl, hs.below⟩
    · have hi : wthn i 0 (M.grid.nr * M.grid.nz - 1) = true := by simpa using h2
      have hi2 := wthn_iff.1 hi
      refine ac_skip (aq_then (ac_seq (ac_region ?_)))
      refine al_p (q_fieldAddr 4 rfl Tryz.runUnderlying29 rfl Tryz.sizeOf26 (by decide) rfl) (al_p (q_loadSub (i := 1) rfl rfl Tryz.isAgg26 Tryz.sizeOf26 .k4 .k5) (al_p (q_move rfl) (al_call Tryz.call159 (.cons rfl (.cons rfl .nil)) rfl rfl (fun w4 hs4 => ?_))))
      refine (cellPlace_any M.grid i _ hf (by omega) (by omega)).mono ?_
      rintro e u4 ⟨rfl, hb_4⟩
      refine ⟨_, rfl, hb_4, ?_⟩
      clear hs4
      refine al_storeAll (i := 0) rfl rfl rfl rfl Tryz.sizeOf36 rfl rfl .k0 rfl (al_p (q_assign rfl) (al_end (aq_then ?_)))
      refine ac_ret (retR Tryz.results153 (.agg (i := 0) rfl rfl Tryz.isAgg36 Tryz.sizeOf36 rfl (.tmp rfl .nil)) .two (fun w9 hs => ?_))
      unfold cellL; rw [if_pos hc, if_pos hi]; exact ⟨rfl, hs.below⟩
end
section
open Go.RowKit Go.Shelf
end
section
open Go.RowKit Go.Shelf
def sigma (g : GridD) (k : Nat) : Nat := ((g.nz - 1 - (k : Int) / g.nr) * g.nr + (k : Int) % g.nr).toNat
theorem sigma_at (g : GridD) (a b c d : Nat) (hc : g.nr = c) (hd : g.nz = d) (ha : a < d) (hb : b < c) : sigma g (a * c + b) = (d - 1 - a) * c + b := by
  unfold sigma
  rw [hc, hd]
  have h1 : ((a * c + b : Nat) : Int) / (c : Int) = a := by
    have : (a * c + b) / c = a := by
      rw [Nat.mul_comm, Nat.mul_add_div (by omega), Nat.div_eq_of_lt hb]; omega
    exact_mod_cast this
  have h2 : ((a * c + b : Nat) : Int) % (c : Int) = b := by
    have : (a * c + b) % c = b := by
      rw [Nat.mul_comm, Nat.mul_add_mod, Nat.mod_eq_of_lt hb]
    exact_mod_cast this
  rw [h1, h2]
  have h3 : ((d : Int) - 1 - a) = ((d - 1 - a : Nat) : Int) := by omega
  rw [h3]
  have h4 : ((d - 1 - a : Nat) : Int) * (c : Int) + (b : Int) = (((d - 1 - a) * c + b : Nat) : Int) := by push_cast; rfl
  rw [h4, Int.toNat_natCast]
theorem fine_nat {g : GridD} (h : g.Fine) : ∃ c d : Nat, g.nr = c ∧ g.nz = d ∧ g.nr * g.nz = ((d * c : Nat) : Int) := by
  obtain ⟨_, _, _, _, n0, n1, k0, k1, _, _⟩ := h
  refine ⟨g.nr.toNat, g.nz.toNat, by omega, by omega, ?_⟩
  push_cast
  rw [Int.toNat_of_nonneg (by omega), Int.toNat_of_nonneg (by omega), Int.mul_comm]
end
section
set_option autoImplicit false
open Go.RowKit
theorem aq_swapT {E : Cfg} {U : Snaps} {l : Slots} {L L' L1 A B G : Boxes} {X : Act → World → Prop} (hT : Tl L1 (A ++ (B ++ G)) L) (hT' : Tl L1 (B ++ (A ++ G)) L') (h : AQ E U l L' X) : AQ E U l L X := fun a w hf hs => h a w hf (by
  refine hs.perm ?_
  rw [hT.eq, hT'.eq]
  refine List.Perm.append_left L1 ?_
  rw [← List.append_assoc, ← List.append_assoc]
  exact List.Perm.append_right G List.perm_append_comm)
def rowK (g : GridD) (n i : Nat) : List Int := (List.range n).map fun (j : Nat) => infl (cellR g i) (cellZ g i) (cellR g j) (cellZ g j)
theorem rowK_length (g : GridD) (n i : Nat) : (rowK g n i).length = n := by simp [rowK]
def RowsIn (g : GridD) (n : Nat) (G : Boxes) (rows : List (Option Addr × Nat)) : Prop := ∀ (i : Nat) r, rows[i]? = some r → ∃ b sp, r.1 = some ⟨b, 0, none⟩ ∧ (b, Cont.cells ((rowK g n i).map (Value.int .i64) ++ sp)) ∈ G ∧ n ≤ r.2 ∧ r.2 ≤ 9223372036854775807
theorem Sta.rowK {N : Nat} {D : List Deferred} {w0 w : World} {U : Snaps} {L G : Boxes} {g : GridD} {n : Nat} {rows : List (Option Addr × Nat)} (h : Sta ⟨N, D, w0, []⟩ U L w) (hG : ∀ x ∈ G, x ∈ L) (hr : RowsIn g n G rows) : ∀ (i : Nat) r, rows[i]? = some r → NewT 1 intCells w0.heap.size w r.1 n r.2 (rowK g n i) := by
  intro i r hi
  obtain ⟨b, sp, e, hm, h1, h2⟩ := hr i r hi
  obtain ⟨j, hj⟩ := List.getElem?_of_mem (hG _ hm)
  refine ⟨?_, fun b' off e' => ?_, h1, h2⟩
  · rw [e]; exact isT_box (n := 1) (enc := intCells) (fun _ => rfl) (h.at j hj) (flat_int _) (rowK_length _ _ _)
  · rw [e] at e'; cases e'
    rcases (h.box j _ _ hj).1 with g1 | g1
    · exact g1
    · cases g1
end
section
set_option autoImplicit false
open Go.RowKit
section
variable {P : Program} {e0 : Cfg} {U : Snaps} {l : Slots} {L : Boxes} {ops : Array Oper} {Q : Exit → Act → World → Prop} {rest : List Oper} {d : Nat} {v : Value}
variable {ty : TypeId} {pos : String} {af : Array Edge} {g : Option (Nat × Bool)} {dd : Option Nat}
theorem q_max {ox oy : Operand} {x y : Int} {ts : Array TypeId} (hx : E l ox = some (.int .i64 x)) (hy : E l oy = some (.int .i64 y)) : Q1 P e0 U l L ⟨dd, .call ⟨.builtin .max, #[ox, oy], ts⟩, ty, pos, af, g⟩ (.int .i64 (max x y)) := by
  intro a w hf hs
  have e : (if y > x then y else x) = max x y := by omega
  simp [execOp, resolve, invoke, hf.ev hx, hf.ev hy, builtin, run_max_int2, run_min_int2, Result.andThen, e]
theorem q_min {ox oy : Operand} {x y : Int} {ts : Array TypeId} (hx : E l ox = some (.int .i64 x)) (hy : E l oy = some (.int .i64 y)) : Q1 P e0 U l L ⟨dd, .call ⟨.builtin .min, #[ox, oy], ts⟩, ty, pos, af, g⟩ (.int .i64 (min x y)) := by
  intro a w hf hs
  have e : (if y < x then y else x) = min x y := by omega
  simp [execOp, resolve, invoke, hf.ev hx, hf.ev hy, builtin, run_max_int2, run_min_int2, Result.andThen, e]
end
theorem Tl.of {L1 G L : Boxes} (h : L = L1 ++ G) : Tl L1 G L := by
  subst h
  induction L1 with
  | nil => exact .z
  | cons x r ih => exact .s ih
section
variable {P : Program} {e0 : Cfg} {U : Snaps} {l : Slots} {L : Boxes} {ops : Array Oper} {Q : Exit → Act → World → Prop} {rest : List Oper} {d : Nat} {v : Value}
variable {ty : TypeId} {pos : String} {af : Array Edge} {g : Option (Nat × Bool)} {dd : Option Nat}
end
end
end Go.Proofs.YtogcjgjhmlifgaaGreat
