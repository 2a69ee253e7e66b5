import Derived.Test.YthggkidiidnaoaaGreatWAA
import Derived.Test.YthggkidiidnaoaaGreatWAX
import Derived.Test.YthggkidiidnaoaaGreatWAY
import Derived.Test.YthggkidiidnaoaaGreatWBA
import Derived.Test.YthggkidiidnaoaaGreatWBB
import Derived.Test.YthggkidiidnaoaaGreatWBF
import Derived.Test.YthggkidiidnaoaaGreatWBG
import Derived.Test.YthggkidiidnaoaaGreatWBH
import Derived.Test.YthggkidiidnaoaaGreatRows
import Derived.KernelRfl
import Derived.Laws.StructEq
namespace Go.Proofs.YthggkidiidnaoaaGreat
set_option linter.unusedVariables false
set_option linter.unusedSimpArgs false
section
set_option autoImplicit false
open Go.RowKit
section
variable {P : Program} {e0 : Cfg} {U : Snaps} {l : Slots} {L : Boxes} {ops : Array Oper} {Q : Exit → Act → World → Prop} {rest : List Oper} {d : Nat}
variable {ty : TypeId} {pos : String} {af : Array Edge} {g : Option (Nat × Bool)} {dd : Option Nat}
theorem IsT.from {α : Type} {z : Nat} {enc : α → List Value} {w : World} {A : Option Addr} {len cap lo : Nat} {zs : List α} (h : IsT z enc w A len zs) (hlo : lo ≤ len) (hcap : len ≤ cap) : IsT z enc w (if cap = lo then A else A.map (·.add (lo * z))) (len - lo) (zs.drop lo) := by
 by_cases h0 : 0 < len - lo
 ·obtain ⟨b, o, e, hb, hg⟩ := h.2 om9
  subst e
  rw [if_neg om9]
  have := h.drop lo
  simpa [addr_add] using this
 ·exact ⟨by rw [List.length_drop, h.1], fun h1 => absurd h1 h0⟩
end
end
section
open Go.RowKit
def OutT {α : Type} (z : Nat) (enc : α → List Value) (w : World) (E : Int) (zs : List α) (e : Ending) (w' : World) : Prop := ∃ A n c, e = .returned (.tuple #[.slice A n c, .int .i64 E]) ∧ NewT z enc w.heap.size w' A n c zs ∧ Below w.heap.size w w'
theorem OutT.nil {α : Type} {z : Nat} {enc : α → List Value} {w w' : World} {E : Int} (hb : Below w.heap.size w w') : OutT z enc w E ([] : List α) (.returned (.tuple #[.slice none 0 0, .int .i64 E])) w' :=
 ⟨none, 0, 0, rfl, ⟨IsT.nil _ _ _ _, fun b o e => (by cases e), Nat.le_refl _, by omega⟩, hb⟩
theorem OutT.ok {α : Type} {z n c : Nat} {enc : α → List Value} {w w' : World} {A : Option Addr} {zs : List α} {E : Int} (h : NewT z enc w.heap.size w' A n c zs) (hb : Below w.heap.size w w') : OutT z enc w E zs (.returned (.tuple #[.slice A n c, .int .i64 E])) w' := ⟨A, n, c, rfl, h, hb⟩
end
section
open Go.RowKit
theorem from_step {M : MachD} {p : Int × Int} {n : Nat} {x : Int} (h : (fromL M p)[n]? = some x) : ((fromL M p).take (n + 1)).map (Value.int .i64) = ((fromL M p).take n).map (Value.int .i64) ++ [.int .i64 x] := by
 rw [List.take_add_one, h, List.map_append]; rfl
theorem mul_bd4s {a b : Int} (a0 : 0 ≤ a) (a1 : a ≤ 25000000) (b0 : -1000000 ≤ b) (b1 : b ≤ 1000000) : -25000000000000 ≤ a * b ∧ a * b ≤ 25000000000000 := by
 have h1 : a * (1000000 + b) ≥ 0 := Int.mul_nonneg a0 om9
 have h2 : a * (1000000 - b) ≥ 0 := Int.mul_nonneg a0 om9
 rw [Int.mul_add] at h1
 rw [Int.mul_sub] at h2
 omega
theorem sna_bl_apiPoint_0_1 (a0 a1 : Value) (ha0 : a0.oneCell' = true) (ha1 : a1.oneCell' = true) : ∀ w, (Instr.build 53 #[(0, a0), (1, a1)]).run Tryz.prog w = .ok (.agg #[a0, a1]) w := by
 have ea0 : a0.cells = #[a0] := cells_one ha0
 have ea1 : a1.cells = #[a1] := cells_one ha1
 intro w; simp [Instr.build, Instr.fill, cells_agg, Tryz.runUnderlying53, Tryz.zeroValue53, Tryz.sizeOf3, ea0, ea1]
theorem sna_bs_int_1_0_ (a0 : Value) (ha0 : a0.oneCell' = true) : ∀ w, (Instr.buildSlice 30 1 #[(0, a0)]).run Tryz.prog w = .ok (.slice (some ⟨w.heap.size, 0, none⟩) 1 1) (w.alloc (.cells [a0].toArray 3)) := by
 have ea0 : a0.cells = #[a0] := cells_one ha0
 intro w; (simp [Instr.buildSlice, Instr.fill, cells_agg, newRow, Tryz.runUnderlying30, Tryz.zeroValue3, Tryz.sizeOf3, ea0] <;> (rw [(by kernel_rfl : Array.range 1 = #[0])]; simp [Value.cells]))
set_option maxRecDepth 100000 in
theorem rfrom9_any (R : MachR) (M : MachD) (p0 p1 : Int) (w : World) (hM : IsM w R M) (hc : checkC M = 0) : Calls Tryz.prog 129 #[(.agg (machCells R M)), (.agg #[.int .i64 p0, .int .i64 p1])] w (fun e w' => ∃ A c, e = .returned (.slice A (fromL M (p0, p1)).length c) ∧ NewT 1 intCells w.heap.size w' A (fromL M (p0, p1)).length c (fromL M (p0, p1)) ∧ Below w.heap.size w w') := by
 have hs0 := sound_of hc
 have hg := cells_fine hs0.grid
 have hsc := hs0.coils.1
 have hss := hs0.shells.1
 have hla := hM.coils.1
 have hlb := hM.shells.1
 refine calls_ax (vs := [(.agg (machCells R M)), (.agg #[.int .i64 p0, .int .i64 p1])]) Tryz.func129 rfl rfl ?_
 refine ac_seq (ac_region ?_)
 refine al_nb (r_box rfl rfl) ?_
 intro b1
 refine al_nb (r_box rfl rfl) ?_
 intro b2
 refine al_p (q_assign rfl) (al_end (aq_then ?_))
 refine ac_seq (ac_region ?_)
 refine al_p (q_assign rfl) (al_end (aq_then ?_))
 refine ac_seq (ac_seq (ac_region ?_))
 refine al_p (q_assign rfl) (al_end (aq_then ?_))
 refine ac_block ?_
 refine ac_loop (β := Nat × Gr × List Value) (fun k => k.1 ≤ R.la ∧ gok k.2.1 k.1 1 k.2.2 ∧ k.2.2 = ((fromL M (p0, p1)).take k.1).map (Value.int .i64)) (fun k => [(2, (.pointer (some ⟨b1, 0, none⟩))), (3, (.pointer (some ⟨b2, 0, none⟩))), (4, (.slice none 0 0)), (5, (.slice (gA k.2.1) k.1 (gC k.2.1))), (6, (.int .i64 (k.1 : Int)))]) (fun _ => _) (fun k => (b2, _) :: (b1, _) :: (gt k.2.1 k.2.2 ++ ([]))) (fun k => R.la - k.1) (0, none, []) ⟨by simp, gok.none 1, by simp⟩ ⟨rfl, rfl, rfl, rfl, rfl, trivial⟩ (fun w9 hs => (by rw [show gt none [] = [] from rfl, List.nil_append]; exact hs)) (fun k hF1 => ?_)
 obtain ⟨hkn, hgk, hck⟩ := hF1
 refine ac_seq (ac_seq (ac_region ?_))
 refine al_p (q_move rfl) ?_
 refine al_p (q_fieldAddr 1 rfl Tryz.runUnderlying29 rfl Tryz.sizeOf22 de9 rfl) (al_p (q_load (i := 1) rfl rfl rfl Tryz.isAgg22) (al_p (q_lenS rfl Tryz.runUnderlying22) (al_p (q_lss rfl rfl) (al_end (aq_then ?_)))))
 refine ac_cond rfl (fun h1 => ?_) (fun h1 => ?_)
 ·have hkl : k.1 < R.la := by have := of_decide_eq_true h1; omega
  obtain ⟨b11, o11, hA1, hlt1, hget1⟩ := hM.coils.2 om9
  have hx1 := cA_get (M := M) (k := k.1) om9
  have hx9 := from_coil (p := (p0, p1)) hx1
  have hb9 := from_bd hs0 (p0, p1) _ (List.mem_of_getElem? hx9)
  simp only at hx9 hb9
  refine ac_skip (aq_then (ac_seq (ac_block (ac_drawF 25 (.s (.s .z)) kr9 kr9 ?_))))
  refine ah_t 0 (fun w9 hs => (hs.front (.s2 .z))) rfl rfl kr9 (q_move rfl) ?_
  refine ah_t 1 (fun w9 hs => (hs.front (.s2 .z))) rfl rfl kr9 (q_fieldAddr 1 rfl Tryz.runUnderlying29 rfl Tryz.sizeOf22 de9 rfl) (ah_t 2 (fun w9 hs => (hs.front (.s2 .z))) rfl rfl kr9 (q_load (i := 1) rfl rfl rfl Tryz.isAgg22) (ah_t 3 (fun w9 hs => (hs.front (.s2 .z))) rfl rfl kr9 (q_move rfl) ?_))
  refine ah_t 4 (fun w9 hs => (hs.front (.s2 .z))) rfl rfl kr9 (q_indexAddrA (i := k.1) (o11 + k.1 * 8 + 0) hA1 rfl rfl rfl om9 Tryz.runUnderlying22 Tryz.sizeOf51 rfl) ?_
  refine ah_t 5 (fun w9 hs => (hs.front (.s2 .z))) rfl rfl kr9 (q_fieldAddr (o11 + k.1 * 8 + 3) rfl Tryz.runUnderlying51 rfl Tryz.sizeOf3 de9 rfl) (ah_t 6 (fun w9 hs => (hs.front (.s2 .z))) rfl rfl kr9 (q_loadX rfl Tryz.isAgg3 (fun w9 hs => (hs.below.cell (p := ⟨_, _, none⟩) hlt1).trans ((hget1 k.1 _ hx1) 3 _ rfl))) (ah_t 7 (fun w9 hs => (hs.front (.s2 .z))) rfl rfl kr9 (q_loadAll (i := 0) rfl rfl Tryz.isAgg53 Tryz.sizeOf53 rfl) ?_))
  refine ah_t 8 (fun w9 hs => (hs.front (.s2 .z))) rfl rfl kr9 (q_fieldAddr 1 rfl Tryz.runUnderlying29 rfl Tryz.sizeOf22 de9 rfl) (ah_t 9 (fun w9 hs => (hs.front (.s2 .z))) rfl rfl kr9 (q_load (i := 1) rfl rfl rfl Tryz.isAgg22) (ah_t 10 (fun w9 hs => (hs.front (.s2 .z))) rfl rfl kr9 (q_move rfl) ?_))
  refine ah_t 11 (fun w9 hs => (hs.front (.s2 .z))) rfl rfl kr9 (q_indexAddrA (i := k.1) (o11 + k.1 * 8 + 0) hA1 rfl rfl rfl om9 Tryz.runUnderlying22 Tryz.sizeOf51 rfl) ?_
  refine ah_t 12 (fun w9 hs => (hs.front (.s2 .z))) rfl rfl kr9 (q_fieldAddr (o11 + k.1 * 8 + 1) rfl Tryz.runUnderlying51 rfl Tryz.sizeOf3 de9 rfl) (ah_t 13 (fun w9 hs => (hs.front (.s2 .z))) rfl rfl kr9 (q_loadX rfl Tryz.isAgg3 (fun w9 hs => (hs.below.cell (p := ⟨_, _, none⟩) hlt1).trans ((hget1 k.1 _ hx1) 1 _ rfl))) ?_)
  refine ah_t 14 (fun w9 hs => (hs.front (.s2 .z))) rfl rfl kr9 (q_fieldAddr 1 rfl Tryz.runUnderlying29 rfl Tryz.sizeOf22 de9 rfl) (ah_t 15 (fun w9 hs => (hs.front (.s2 .z))) rfl rfl kr9 (q_load (i := 1) rfl rfl rfl Tryz.isAgg22) (ah_t 16 (fun w9 hs => (hs.front (.s2 .z))) rfl rfl kr9 (q_move rfl) ?_))
  refine ah_t 17 (fun w9 hs => (hs.front (.s2 .z))) rfl rfl kr9 (q_indexAddrA (i := k.1) (o11 + k.1 * 8 + 0) hA1 rfl rfl rfl om9 Tryz.runUnderlying22 Tryz.sizeOf51 rfl) ?_
  refine ah_t 18 (fun w9 hs => (hs.front (.s2 .z))) rfl rfl kr9 (q_fieldAddr (o11 + k.1 * 8 + 2) rfl Tryz.runUnderlying51 rfl Tryz.sizeOf3 de9 rfl) (ah_t 19 (fun w9 hs => (hs.front (.s2 .z))) rfl rfl kr9 (q_loadX rfl Tryz.isAgg3 (fun w9 hs => (hs.below.cell (p := ⟨_, _, none⟩) hlt1).trans ((hget1 k.1 _ hx1) 2 _ rfl))) (ah_t 20 (fun w9 hs => (hs.front (.s2 .z))) rfl rfl kr9 (q_build (.cons rfl (.cons rfl .nil)) (sna_bl_apiPoint_0_1 _ _ rfl rfl)) (ah_one 21 rfl kr9 (fun hok1 hcl1 => ?_))))
  refine al_call Tryz.call159 (.cons rfl (.cons rfl .nil)) rfl rfl (fun w1 hs1 => ?_)
  refine (rinfluence_any p0 p1 (cA M k.1).r (cA M k.1).z _).mono ?_
  rintro e u1 ⟨rfl, hb_1⟩
  refine ⟨_, rfl, hb_1, ?_⟩
  clear hs1
  refine al_end (ah_back hok1 hcl1 (fun w9 hs => ((hs.fewer 1 rfl).front (.s2 .z))) ?_)
  refine ah_t 22 (fun w9 hs => ((hs.fewer 1 rfl).front (.s2 .z))) rfl rfl kr9 (q_mul rfl rfl om9) (ah_one 23 rfl kr9 (fun hok2 hcl2 => ?_))
  refine al_new (fun b => .slice (some ⟨b, 0, none⟩) 1 1) (r_buildSlice (.cons rfl .nil) (sna_bs_int_1_0_ _ rfl)) rfl rfl rfl ?_
  intro b3
  refine al_end (ah_back hok2 hcl2 (fun w9 hs => (((hs.fewer 1 rfl).tail 1 rfl).front (.s2 .z))) ?_)
  refine ah_one 24 rfl kr9 (fun hok3 hcl3 => ?_)
  refine al_grow (z := 1) (bytes := 8) (zv := (.int .i64 0)) (o := k.2.1) (cs := k.2.2) (vs := [.int .i64 ((cA M k.1).turns * infl p0 p1 (cA M k.1).r (cA M k.1).z)]) rfl rfl (.s3 .z) hgk (Sor.box (j := 0) rfl rfl rfl) Tryz.underlying30 kr9 rfl om9 de9 rfl rfl (fun o_1 g_1 => ?_)
  refine ⟨_, (.s3 .z), ?_⟩
  refine al_end (ah_back hok3 hcl3 (fun w9 hs => (((hs.fewer 1 rfl).tail 1 rfl).front (.s2 .z))) ?_)
  refine ah_one 25 rfl kr9 (fun hok4 hcl4 => ?_)
  refine al_p (q_assign rfl) (al_end (ah_last kr9 ?_))
  refine aq_inN (aq_then (ac_region (al_p (q_move rfl) ?_)))
  refine al_p (q_add rfl rfl om9) (al_p (q_assign rfl) (al_end (aq_then ?_)))
  skip
  refine aq_round ((k.1 + 1, o_1, (k.2.2 ++ [.int .i64 ((cA M k.1).turns * infl p0 p1 (cA M k.1).r (cA M k.1).z)]))) (by simp only; omega) ⟨by simp only; omega, g_1, by simp only; rw [hck]; exact (from_step hx9).symm⟩ ⟨rfl, rfl, rfl, rfl, rfl, trivial⟩ (fun w9 hs => ((hs.fewer 1 rfl).tail 1 rfl))
 ·have hke1 : k.1 = R.la := by have := of_decide_eq_false h1; omega
  refine ac_exit (aq_thenE (aq_thenE (aq_hit (aq_then ?_))))
  refine ac_seq (ac_seq (ac_region ?_))
  refine al_p (q_assign rfl) (al_end (aq_then ?_))
  refine ac_block ?_
  refine ac_loop (β := Nat × Gr × List Value) (fun k => k.1 ≤ R.lb ∧ gok k.2.1 (R.la + k.1) 1 k.2.2 ∧ k.2.2 = ((fromL M (p0, p1)).take (R.la + k.1)).map (Value.int .i64)) (fun k => [(2, (.pointer (some ⟨b1, 0, none⟩))), (3, (.pointer (some ⟨b2, 0, none⟩))), (4, (.slice none 0 0)), (5, (.slice (gA k.2.1) (R.la + k.1) (gC k.2.1))), (7, (.int .i64 (k.1 : Int)))]) (fun _ => _) (fun k => (b2, _) :: (b1, _) :: (gt k.2.1 k.2.2 ++ ([]))) (fun k => R.lb - k.1) (0, k.2.1, k.2.2) ⟨by simp, by simp only [Nat.add_zero]; rw [← hke1]; exact hgk, by simp only [Nat.add_zero]; rw [← hke1]; exact hck⟩ ⟨rfl, rfl, rfl, (by simp only [Nat.add_zero]; rw [← hke1]; rfl), rfl, trivial⟩ (fun w9 hs => hs) (fun k hF2 => ?_)
  obtain ⟨hkn, hgk, hck⟩ := hF2
  refine ac_seq (ac_seq (ac_region ?_))
  refine al_p (q_move rfl) ?_
  refine al_p (q_fieldAddr 2 rfl Tryz.runUnderlying29 rfl Tryz.sizeOf23 de9 rfl) (al_p (q_load (i := 1) rfl rfl rfl Tryz.isAgg23) (al_p (q_lenS rfl Tryz.runUnderlying23) (al_p (q_lss rfl rfl) (al_end (aq_then ?_)))))
  refine ac_cond rfl (fun h2 => ?_) (fun h2 => ?_)
  ·have hkl : k.1 < R.lb := by have := of_decide_eq_true h2; omega
   obtain ⟨b21, o21, hA2, hlt2, hget2⟩ := hM.shells.2 om9
   have hx2 := sA_get (M := M) (k := k.1) om9
   have hx9 := from_shell (p := (p0, p1)) hx2
   rw [hla] at hx9
   simp only at hx9
   refine ac_skip (aq_then (ac_seq (ac_block (ac_drawF 18 (.s (.s .z)) kr9 kr9 ?_))))
   refine ah_t 0 (fun w9 hs => (hs.front (.s2 .z))) rfl rfl kr9 (q_move rfl) (ah_t 1 (fun w9 hs => (hs.front (.s2 .z))) rfl rfl kr9 (q_loadAll (i := 0) rfl rfl Tryz.isAgg53 Tryz.sizeOf53 rfl) ?_)
   refine ah_t 2 (fun w9 hs => (hs.front (.s2 .z))) rfl rfl kr9 (q_fieldAddr 2 rfl Tryz.runUnderlying29 rfl Tryz.sizeOf23 de9 rfl) (ah_t 3 (fun w9 hs => (hs.front (.s2 .z))) rfl rfl kr9 (q_load (i := 1) rfl rfl rfl Tryz.isAgg23) (ah_t 4 (fun w9 hs => (hs.front (.s2 .z))) rfl rfl kr9 (q_move rfl) ?_))
   refine ah_t 5 (fun w9 hs => (hs.front (.s2 .z))) rfl rfl kr9 (q_indexAddrA (i := k.1) (o21 + k.1 * 4 + 0) hA2 rfl rfl rfl om9 Tryz.runUnderlying23 Tryz.sizeOf142 rfl) ?_
   refine ah_t 6 (fun w9 hs => (hs.front (.s2 .z))) rfl rfl kr9 (q_fieldAddr (o21 + k.1 * 4 + 0) rfl Tryz.runUnderlying142 rfl Tryz.sizeOf3 de9 rfl) (ah_t 7 (fun w9 hs => (hs.front (.s2 .z))) rfl rfl kr9 (q_loadX rfl Tryz.isAgg3 (fun w9 hs => (hs.below.cell (p := ⟨_, _, none⟩) hlt2).trans ((hget2 k.1 _ hx2) 0 _ rfl))) ?_)
   refine ah_t 8 (fun w9 hs => (hs.front (.s2 .z))) rfl rfl kr9 (q_fieldAddr 2 rfl Tryz.runUnderlying29 rfl Tryz.sizeOf23 de9 rfl) (ah_t 9 (fun w9 hs => (hs.front (.s2 .z))) rfl rfl kr9 (q_load (i := 1) rfl rfl rfl Tryz.isAgg23) (ah_t 10 (fun w9 hs => (hs.front (.s2 .z))) rfl rfl kr9 (q_move rfl) ?_))
   refine ah_t 11 (fun w9 hs => (hs.front (.s2 .z))) rfl rfl kr9 (q_indexAddrA (i := k.1) (o21 + k.1 * 4 + 0) hA2 rfl rfl rfl om9 Tryz.runUnderlying23 Tryz.sizeOf142 rfl) ?_
   refine ah_t 12 (fun w9 hs => (hs.front (.s2 .z))) rfl rfl kr9 (q_fieldAddr (o21 + k.1 * 4 + 1) rfl Tryz.runUnderlying142 rfl Tryz.sizeOf3 de9 rfl) (ah_t 13 (fun w9 hs => (hs.front (.s2 .z))) rfl rfl kr9 (q_loadX rfl Tryz.isAgg3 (fun w9 hs => (hs.below.cell (p := ⟨_, _, none⟩) hlt2).trans ((hget2 k.1 _ hx2) 1 _ rfl))) (ah_t 14 (fun w9 hs => (hs.front (.s2 .z))) rfl rfl kr9 (q_build (.cons rfl (.cons rfl .nil)) (sna_bl_apiPoint_0_1 _ _ rfl rfl)) (ah_one 15 rfl kr9 (fun hok5 hcl5 => ?_))))
   refine al_call Tryz.call159 (.cons rfl (.cons rfl .nil)) rfl rfl (fun w2 hs2 => ?_)
   refine (rinfluence_any p0 p1 (sA M k.1).r (sA M k.1).z _).mono ?_
   rintro e u2 ⟨rfl, hb_2⟩
   refine ⟨_, rfl, hb_2, ?_⟩
   clear hs2
   refine al_end (ah_back hok5 hcl5 (fun w9 hs => ((hs.fewer 1 rfl).front (.s2 .z))) ?_)
   refine ah_one 16 rfl kr9 (fun hok6 hcl6 => ?_)
   refine al_new (fun b => .slice (some ⟨b, 0, none⟩) 1 1) (r_buildSlice (.cons rfl .nil) (sna_bs_int_1_0_ _ rfl)) rfl rfl rfl ?_
   intro b4
   refine al_end (ah_back hok6 hcl6 (fun w9 hs => (((hs.fewer 1 rfl).tail 1 rfl).front (.s2 .z))) ?_)
   refine ah_one 17 rfl kr9 (fun hok7 hcl7 => ?_)
   refine al_grow (z := 1) (bytes := 8) (zv := (.int .i64 0)) (o := k.2.1) (cs := k.2.2) (vs := [.int .i64 (infl p0 p1 (sA M k.1).r (sA M k.1).z)]) rfl rfl (.s3 .z) hgk (Sor.box (j := 0) rfl rfl rfl) Tryz.underlying30 kr9 rfl om9 de9 rfl rfl (fun o_2 g_2 => ?_)
   refine ⟨_, (.s3 .z), ?_⟩
   refine al_end (ah_back hok7 hcl7 (fun w9 hs => (((hs.fewer 1 rfl).tail 1 rfl).front (.s2 .z))) ?_)
   refine ah_one 18 rfl kr9 (fun hok8 hcl8 => ?_)
   refine al_p (q_assign rfl) (al_end (ah_last kr9 ?_))
   refine aq_inN (aq_then (ac_region (al_p (q_move rfl) ?_)))
   refine al_p (q_add rfl rfl om9) (al_p (q_assign rfl) (al_end (aq_then ?_)))
   skip
   refine aq_round ((k.1 + 1, o_2, (k.2.2 ++ [.int .i64 (infl p0 p1 (sA M k.1).r (sA M k.1).z)]))) (by simp only; omega) ⟨by simp only; omega, g_2, by simp only; rw [hck]; exact (from_step hx9).symm⟩ ⟨rfl, rfl, rfl, rfl, rfl, trivial⟩ (fun w9 hs => ((hs.fewer 1 rfl).tail 1 rfl))
  ·have hke2 : R.la + k.1 = R.la + R.lb := by have := of_decide_eq_false h2; omega
   refine ac_exit (aq_thenE (aq_thenE (aq_hit (aq_then ?_))))
   refine ac_seq (ac_seq (ac_region ?_))
   refine al_p (q_assign rfl) (al_end (aq_then ?_))
   refine aq_keepL [2, 3, 4, 5, 8] (.cons rfl (.cons rfl (.cons rfl (.cons rfl (.cons rfl .nil))))) ?_
   refine ac_block ?_
   refine ac_loop (β := Nat × Gr × List Value) (fun k => k.1 ≤ (M.grid.nr * M.grid.nz).toNat ∧ gok k.2.1 (R.la + R.lb + k.1) 1 k.2.2 ∧ k.2.2 = ((fromL M (p0, p1)).take (R.la + R.lb + k.1)).map (Value.int .i64)) (fun k => [(2, (.pointer (some ⟨b1, 0, none⟩))), (3, (.pointer (some ⟨b2, 0, none⟩))), (4, (.slice none 0 0)), (5, (.slice (gA k.2.1) (R.la + R.lb + k.1) (gC k.2.1))), (8, (.int .i64 (k.1 : Int)))]) (fun _ => _) (fun k => (b2, _) :: (b1, _) :: (gt k.2.1 k.2.2 ++ ([]))) (fun k => (M.grid.nr * M.grid.nz).toNat - k.1) (0, k.2.1, k.2.2) ⟨by simp, by simp only [Nat.add_zero]; rw [← hke2]; exact hgk, by simp only [Nat.add_zero]; rw [← hke2]; exact hck⟩ ⟨rfl, rfl, rfl, (by simp only [Nat.add_zero]; rw [← hke2]; rfl), rfl, trivial⟩ (fun w9 hs => hs) (fun k hF3 => ?_)
   obtain ⟨hkn, hgk, hck⟩ := hF3
   refine ac_seq (ac_seq (ac_region ?_))
   refine al_p (q_move rfl) ?_
   refine al_p (q_fieldAddr 4 rfl Tryz.runUnderlying29 rfl Tryz.sizeOf26 de9 rfl) ?_
   refine al_p (q_fieldAddr 6 rfl Tryz.runUnderlying26 rfl Tryz.sizeOf3 de9 rfl) (al_p (q_load (i := 1) rfl rfl rfl Tryz.isAgg3) ?_)
   refine al_p (q_fieldAddr 4 rfl Tryz.runUnderlying29 rfl Tryz.sizeOf26 de9 rfl) ?_
   refine al_p (q_fieldAddr 7 rfl Tryz.runUnderlying26 rfl Tryz.sizeOf3 de9 rfl) (al_p (q_load (i := 1) rfl rfl rfl Tryz.isAgg3) ?_)
   refine al_p (q_mul rfl rfl om9) (al_p (q_lss rfl rfl) (al_end (aq_then ?_)))
   refine ac_cond rfl (fun h3 => ?_) (fun h3 => ?_)
   ·have hkl : k.1 < (M.grid.nr * M.grid.nz).toNat := by have := of_decide_eq_true h3; omega
    have hx9 := from_cell (M := M) (p := (p0, p1)) (k := k.1) om9
    rw [hla, hlb, ← Nat.add_assoc] at hx9
    simp only at hx9
    refine ac_skip (aq_then (ac_seq (ac_block (ac_drawF 8 (.s (.s .z)) kr9 kr9 ?_))))
    refine ah_t 0 (fun w9 hs => (hs.front (.s2 .z))) rfl rfl kr9 (q_move rfl) (ah_t 1 (fun w9 hs => (hs.front (.s2 .z))) rfl rfl kr9 (q_loadAll (i := 0) rfl rfl Tryz.isAgg53 Tryz.sizeOf53 rfl) (ah_t 2 (fun w9 hs => (hs.front (.s2 .z))) rfl rfl kr9 (q_loadAll (i := 1) rfl rfl Tryz.isAgg29 Tryz.sizeOf29 rfl) (ah_t 3 (fun w9 hs => (hs.front (.s2 .z))) rfl rfl kr9 (q_move rfl) (ah_one 4 rfl kr9 (fun hok9 hcl9 => ?_)))))
    refine al_call Tryz.call160 (.cons rfl (.cons rfl .nil)) rfl rfl (fun w3 hs3 => ?_)
    refine (rat_any M.name R.A R.B R.C R.D R.la R.ca R.lb R.cb R.lc R.cc R.ld R.cd M.grid.r M.grid.z M.grid.nr M.grid.nz M.grid.step (k.1 : Int) _ hs0.grid om9 om9).mono ?_
    rintro e u3 ⟨rfl, hb_3⟩
    refine ⟨_, rfl, hb_3, ?_⟩
    clear hs3
    refine al_end (ah_back hok9 hcl9 (fun w9 hs => ((hs.fewer 1 rfl).front (.s2 .z))) ?_)
    refine ah_one 5 rfl kr9 (fun hok10 hcl10 => ?_)
    refine al_call Tryz.call159 (.cons rfl (.cons rfl .nil)) rfl rfl (fun w4 hs4 => ?_)
    refine (rinfluence_any p0 p1 (cellR M.grid (k.1 : Int)) (cellZ M.grid (k.1 : Int)) _).mono ?_
    rintro e u4 ⟨rfl, hb_4⟩
    refine ⟨_, rfl, hb_4, ?_⟩
    clear hs4
    refine al_end (ah_back hok10 hcl10 (fun w9 hs => ((hs.fewer 2 rfl).front (.s2 .z))) ?_)
    refine ah_one 6 rfl kr9 (fun hok11 hcl11 => ?_)
    refine al_new (fun b => .slice (some ⟨b, 0, none⟩) 1 1) (r_buildSlice (.cons rfl .nil) (sna_bs_int_1_0_ _ rfl)) rfl rfl rfl ?_
    intro b5
    refine al_end (ah_back hok11 hcl11 (fun w9 hs => (((hs.fewer 2 rfl).tail 1 rfl).front (.s2 .z))) ?_)
    refine ah_one 7 rfl kr9 (fun hok12 hcl12 => ?_)
    refine al_grow (z := 1) (bytes := 8) (zv := (.int .i64 0)) (o := k.2.1) (cs := k.2.2) (vs := [.int .i64 (infl p0 p1 (cellR M.grid (k.1 : Int)) (cellZ M.grid (k.1 : Int)))]) rfl rfl (.s3 .z) hgk (Sor.box (j := 0) rfl rfl rfl) Tryz.underlying30 kr9 rfl om9 de9 rfl rfl (fun o_3 g_3 => ?_)
    refine ⟨_, (.s3 .z), ?_⟩
    refine al_end (ah_back hok12 hcl12 (fun w9 hs => (((hs.fewer 2 rfl).tail 1 rfl).front (.s2 .z))) ?_)
    refine ah_one 8 rfl kr9 (fun hok13 hcl13 => ?_)
    refine al_p (q_assign rfl) (al_end (ah_last kr9 ?_))
    refine aq_inN (aq_then (ac_region (al_p (q_move rfl) ?_)))
    refine al_p (q_add rfl rfl om9) (al_p (q_assign rfl) (al_end (aq_then ?_)))
    skip
    refine aq_round ((k.1 + 1, o_3, (k.2.2 ++ [.int .i64 (infl p0 p1 (cellR M.grid (k.1 : Int)) (cellZ M.grid (k.1 : Int)))]))) (by simp only; omega) ⟨by simp only; omega, g_3, by simp only; rw [hck]; exact (from_step hx9).symm⟩ ⟨rfl, rfl, rfl, rfl, rfl, trivial⟩ (fun w9 hs => ((hs.fewer 2 rfl).tail 1 rfl))
   ·have hke3 : R.la + R.lb + k.1 = (fromL M (p0, p1)).length := by have := of_decide_eq_false h3; rw [from_length]; omega
    refine ac_exit (aq_thenE (aq_thenE (aq_hit (aq_then ?_))))
    refine ac_seq (ac_region ?_)
    refine al_p (q_move rfl) (al_p (q_assign rfl) (al_end (aq_then ?_)))
    refine ac_ret (ret1 Tryz.results129 rfl (fun w9 hs => ?_))
    have h9 := hs.grown (enc := intCells) (o := k.2.1) (cs := k.2.2) (zs := (fromL M (p0, p1))) (fun _ => rfl) (fun y hy => by simp [hy]) hgk (by rw [flat_int, hck, List.take_of_length_le om9]) hke3.symm
    rw [hke3] at h9 ⊢
    exact ⟨_, _, rfl, h9, hs.below⟩
set_option maxRecDepth 100000 in
theorem rflux9_any (R : MachR) (M : MachD) (Q : CurR) (C : CurD) (p0 p1 : Int) (w : World) (hM : IsM w R M) (hC : IsC w Q C) (hv : Fit2 M C) : Calls Tryz.prog 86 #[(.agg (machCells R M)), Q.v, (.int .i64 p0), (.int .i64 p1)] w (Ret (.int .i64 (fluxP (p0, p1) (srcM M C))) w) := by
 have hs0 := sound_of hv.check
 have hg := cells_fine hs0.grid
 have hsc := hs0.coils.1
 have hss := hs0.shells.1
 have hca := hv.coils.1
 have hcb := hv.shells.1
 have hcp := hv.plasma.1
 have qa := hC.coils.1
 have qb := hC.shells.1
 have qc := hC.plasma.1
 have hfl := from_length M (p0, p1)
 have hll : (allL C).length = (fromL M (p0, p1)).length := by unfold allL; rw [List.length_append, List.length_append, hfl]; omega
 have hl2 : (allL C).length = Q.la + Q.lb + Q.lc := by unfold allL; rw [List.length_append, List.length_append]; omega
 refine calls_ax (vs := [(.agg (machCells R M)), Q.v, (.int .i64 p0), (.int .i64 p1)]) Tryz.func86 rfl rfl ?_
 refine ac_seq (ac_region ?_)
 refine al_nb (r_box rfl rfl) ?_
 intro b1
 refine al_nb (r_box rfl rfl) ?_
 intro b2
 refine al_p (q_assign rfl) (al_end (aq_then ?_))
 refine ac_seq (ac_draw 8 kr9 kr9 ?_)
 refine ah_t 0 (fun w9 hs => hs) rfl rfl kr9 (q_loadAll (i := 1) rfl rfl Tryz.isAgg29 Tryz.sizeOf29 rfl) (ah_t 1 (fun w9 hs => hs) rfl rfl kr9 (q_move rfl) (ah_t 2 (fun w9 hs => hs) rfl rfl kr9 (q_move rfl) (ah_t 3 (fun w9 hs => hs) rfl rfl kr9 (q_build (.cons rfl (.cons rfl .nil)) (sna_bl_apiPoint_0_1 _ _ rfl rfl)) (ah_t 5 (fun w9 hs => hs) rfl rfl kr9 (q_loadAll (i := 0) rfl rfl Tryz.isAgg32 Tryz.sizeOf32 rfl) ?_))))
 refine ah_one 4 rfl kr9 (fun hok1 hcl1 => ?_)
 refine al_call Tryz.call129 (.cons rfl (.cons rfl .nil)) rfl rfl (fun w1 hs1 => ?_)
 refine (rfrom9_any R M p0 p1 _ (hM.below hs1.below) hv.check).mono ?_
 rintro e u1 ⟨A_f, c_f, rfl, N_f, hb_1⟩
 refine ⟨_, rfl, hb_1, ?_⟩
 clear hs1
 refine al_end (ah_back hok1 hcl1 (fun w9 hs => (hs.fewer 1 rfl)) ?_)
 refine ah_one 6 rfl kr9 (fun hok2 hcl2 => ?_)
 refine al_call Tryz.call131 (.cons rfl .nil) rfl rfl (fun w2 hs2 => ?_)
 refine (rall_any Q.A Q.B Q.C Q.la Q.ca Q.lb Q.cb Q.lc Q.cc C.coils C.shells C.plasma _ (hC.coils.below hs2.below) (hC.shells.below hs2.below) (hC.plasma.below hs2.below) om9 om9 om9).mono ?_
 rintro e u2 ⟨A_a, c_a, rfl, N_a, hb_2⟩
 refine ⟨_, rfl, hb_2, ?_⟩
 clear hs2
 refine al_end (ah_back hok2 hcl2 (fun w9 hs => (hs.fewer 2 rfl)) ?_)
 refine ah_one 7 rfl kr9 (fun hok3 hcl3 => ?_)
 refine al_p (q_assign rfl) (al_end (ah_back hok3 hcl3 (fun w9 hs => (hs.fewer 2 rfl)) ?_))
 refine ah_one 8 rfl kr9 (fun hok4 hcl4 => ?_)
 refine al_p (q_assign rfl) (al_end (ah_last kr9 ?_))
 refine aq_then (ac_seq (ac_region ?_))
 refine al_p (q_assign rfl) (al_end (aq_then ?_))
 refine ac_seq (ac_seq (ac_region ?_))
 refine al_p (q_assign rfl) (al_end (aq_then ?_))
 refine ac_block (ac_loop (β := Nat × Int) (fun x => x.1 ≤ (fromL M (p0, p1)).length ∧ x.2 + dot ((fromL M (p0, p1)).drop x.1) ((allL C).drop x.1) = fluxP (p0, p1) (srcM M C) ∧ -(25000000000000 * (x.1 : Int)) ≤ x.2 ∧ x.2 ≤ 25000000000000 * (x.1 : Int)) (fun x => [(8, (.int .i64 0)), (9, (.slice A_f (fromL M (p0, p1)).length c_f)), (10, (.slice A_a (Q.la + Q.lb + Q.lc) c_a)), (11, (.int .i64 x.2)), (12, (.int .i64 (x.1 : Int)))]) (fun _ => _) (fun x => [(b2, _), (b1, _)]) (fun x => (fromL M (p0, p1)).length - x.1) (0, 0) ⟨by simp, by rw [List.drop_zero, List.drop_zero, Int.zero_add]; exact dot_src hv (p0, p1), by simp, by simp⟩ ⟨rfl, rfl, rfl, rfl, rfl, trivial⟩ (fun w9 hs => hs) (fun x hF1 => ?_))
 obtain ⟨hxn, hxd, hb1, hb2⟩ := hF1
 refine ac_seq (ac_seq (ac_region ?_))
 refine al_p (q_move rfl) (al_p (q_move rfl) (al_p (q_lenS rfl Tryz.runUnderlying30) (al_p (q_lss rfl rfl) (al_end (aq_then ?_)))))
 refine ac_cond rfl (fun h1 => ?_) (fun h1 => ?_)
 ·have hxl : x.1 < (fromL M (p0, p1)).length := by have := of_decide_eq_true h1; omega
  obtain ⟨b_f, o_f, hA_f, hlt_f, hget_f⟩ := N_f.isT.2 om9
  obtain ⟨a9, hx_f⟩ : ∃ a9, (fromL M (p0, p1))[x.1]? = some a9 := ⟨_, List.getElem?_eq_getElem hxl⟩
  obtain ⟨b_g, o_g, hA_g, hlt_g, hget_g⟩ := N_a.isT.2 om9
  obtain ⟨b9, hx_g⟩ : ∃ b9, (allL C)[x.1]? = some b9 := ⟨_, List.getElem?_eq_getElem (by rw [hll]; exact hxl)⟩
  have r1 := from_bd hs0 (p0, p1) _ (List.mem_of_getElem? hx_f)
  have r2 := all_bd hv _ (List.mem_of_getElem? hx_g)
  have r3 := mul_bd4s (a := a9) (b := b9) r1.1 r1.2 r2.1 r2.2
  refine ac_skip (aq_then (ac_seq (ac_block (ac_draw 11 kr9 kr9 ?_))))
  refine ah_t 0 (fun w9 hs => hs) rfl rfl kr9 (q_move rfl) (ah_t 1 (fun w9 hs => hs) rfl rfl kr9 (q_move rfl) (ah_t 2 (fun w9 hs => hs) rfl rfl kr9 (q_move rfl) ?_))
  refine ah_t 3 (fun w9 hs => hs) rfl rfl kr9 (q_indexAddrA (i := x.1) (o_f + x.1 * 1 + 0) hA_f rfl rfl rfl om9 Tryz.runUnderlying30 Tryz.sizeOf3 rfl) (ah_t 4 (fun w9 hs => hs) rfl rfl kr9 (q_loadX rfl Tryz.isAgg3 (fun w9 hs => (hs.cellOf (.tail _ (.head _)) (N_f.new _ _ hA_f) hlt_f (hget_f x.1 _ hx_f 0 _ rfl)))) (ah_t 5 (fun w9 hs => hs) rfl rfl kr9 (q_move rfl) (ah_t 6 (fun w9 hs => hs) rfl rfl kr9 (q_move rfl) ?_)))
  refine ah_t 7 (fun w9 hs => hs) rfl rfl kr9 (q_indexAddrA (i := x.1) (o_g + x.1 * 1 + 0) hA_g rfl rfl rfl om9 Tryz.runUnderlying30 Tryz.sizeOf3 rfl) (ah_t 8 (fun w9 hs => hs) rfl rfl kr9 (q_loadX rfl Tryz.isAgg3 (fun w9 hs => (hs.cellOf (.head _) (N_a.new _ hA_g) hlt_g (hget_g x.1 _ hx_g 0 _ rfl)))) ?_)
  refine ah_t 9 (fun w9 hs => hs) rfl rfl kr9 (q_mul rfl rfl om9) ?_
  refine ah_t 10 (fun w9 hs => hs) rfl rfl kr9 (q_add rfl rfl om9) (ah_one 11 rfl kr9 (fun hok5 hcl5 => ?_))
  refine al_p (q_assign rfl) (al_end (ah_last kr9 ?_))
  refine aq_inN (aq_then (ac_region (al_p (q_move rfl) ?_)))
  refine al_p (q_add rfl rfl om9) (al_p (q_assign rfl) (al_end (aq_then ?_)))
  skip
  refine aq_round ((x.1 + 1, x.2 + a9 * b9)) (by simp only; omega) ⟨by simp only; omega, by simp only; rw [dot_drop hx_f hx_g] at hxd; omega, by simp only; omega, by simp only; omega⟩ ⟨rfl, rfl, rfl, rfl, rfl, trivial⟩ (fun w9 hs => hs)
 ·have hxe : x.1 = (fromL M (p0, p1)).length := by have := of_decide_eq_false h1; omega
  have hE : x.2 = fluxP (p0, p1) (srcM M C) := by rw [← hxd, List.drop_eq_nil_of_le om9]; simp [dot]
  refine ac_exit (aq_thenE (aq_thenE (aq_hit (aq_then ?_))))
  refine ac_seq (ac_region ?_)
  refine al_p (q_move rfl) (al_p (q_assign rfl) (al_end (aq_then ?_)))
  refine ac_ret (ret1 Tryz.results86 rfl (fun w9 hs => ?_))
  refine ⟨?_, hs.below⟩; rw [hE]
set_option maxRecDepth 100000 in
theorem rfield9_any (R : MachR) (M : MachD) (Q : CurR) (C : CurD) (p0 p1 : Int) (w : World) (hM : IsM w R M) (hC : IsC w Q C) (hv : Fit2 M C) (g0 : -1000000 ≤ p0) (g1 : p0 ≤ 1000000) (g2 : -1000000 ≤ p1) (g3 : p1 ≤ 1000000) : Calls Tryz.prog 45 #[(.agg (machCells R M)), Q.v, (.int .i64 p0), (.int .i64 p1)] w (Ret (.tuple #[.int .i64 (fieldP (p0, p1) (srcM M C)).1, .int .i64 (fieldP (p0, p1) (srcM M C)).2]) w) := by
 have hbd := (small_of hv).bd
 have k1 := hbd (p0, p1 - 1)
 have k2 := hbd (p0, p1 + 1)
 have k3 := hbd (p0 + 1, p1)
 have k4 := hbd (p0 - 1, p1)
 refine calls_ax (vs := [(.agg (machCells R M)), Q.v, (.int .i64 p0), (.int .i64 p1)]) Tryz.func45 rfl rfl ?_
 refine ac_seq (ac_region ?_)
 refine al_nb (r_box rfl rfl) ?_
 intro b1
 refine al_nb (r_box rfl rfl) ?_
 intro b2
 refine al_p (q_assign rfl) (al_p (q_assign rfl) (al_end (aq_then ?_)))
 refine ac_seq (ac_draw 27 kr9 kr9 ?_)
 refine ah_t 0 (fun w9 hs => hs) rfl rfl kr9 (q_loadAll (i := 1) rfl rfl Tryz.isAgg29 Tryz.sizeOf29 rfl) (ah_t 1 (fun w9 hs => hs) rfl rfl kr9 (q_loadAll (i := 0) rfl rfl Tryz.isAgg32 Tryz.sizeOf32 rfl) (ah_t 2 (fun w9 hs => hs) rfl rfl kr9 (q_move rfl) (ah_t 3 (fun w9 hs => hs) rfl rfl kr9 (q_move rfl) ?_)))
 refine ah_t 4 (fun w9 hs => hs) rfl rfl kr9 (q_sub rfl rfl om9) (ah_t 6 (fun w9 hs => hs) rfl rfl kr9 (q_loadAll (i := 1) rfl rfl Tryz.isAgg29 Tryz.sizeOf29 rfl) (ah_t 7 (fun w9 hs => hs) rfl rfl kr9 (q_loadAll (i := 0) rfl rfl Tryz.isAgg32 Tryz.sizeOf32 rfl) (ah_t 8 (fun w9 hs => hs) rfl rfl kr9 (q_move rfl) (ah_t 9 (fun w9 hs => hs) rfl rfl kr9 (q_move rfl) ?_))))
 refine ah_t 10 (fun w9 hs => hs) rfl rfl kr9 (q_add rfl rfl om9) (ah_t 13 (fun w9 hs => hs) rfl rfl kr9 (q_loadAll (i := 1) rfl rfl Tryz.isAgg29 Tryz.sizeOf29 rfl) (ah_t 14 (fun w9 hs => hs) rfl rfl kr9 (q_loadAll (i := 0) rfl rfl Tryz.isAgg32 Tryz.sizeOf32 rfl) (ah_t 15 (fun w9 hs => hs) rfl rfl kr9 (q_move rfl) ?_)))
 refine ah_t 16 (fun w9 hs => hs) rfl rfl kr9 (q_add rfl rfl om9) (ah_t 17 (fun w9 hs => hs) rfl rfl kr9 (q_move rfl) (ah_t 19 (fun w9 hs => hs) rfl rfl kr9 (q_loadAll (i := 1) rfl rfl Tryz.isAgg29 Tryz.sizeOf29 rfl) (ah_t 20 (fun w9 hs => hs) rfl rfl kr9 (q_loadAll (i := 0) rfl rfl Tryz.isAgg32 Tryz.sizeOf32 rfl) (ah_t 21 (fun w9 hs => hs) rfl rfl kr9 (q_move rfl) ?_))))
 refine ah_t 22 (fun w9 hs => hs) rfl rfl kr9 (q_sub rfl rfl om9) (ah_t 23 (fun w9 hs => hs) rfl rfl kr9 (q_move rfl) (ah_one 5 rfl kr9 (fun hok1 hcl1 => ?_)))
 refine al_call Tryz.call86 (.cons rfl (.cons rfl (.cons rfl (.cons rfl .nil)))) rfl rfl (fun w1 hs1 => ?_)
 refine (rflux9_any R M Q C p0 (p1 - 1) _ (hM.below hs1.below) (hC.below hs1.below) hv).mono ?_
 rintro e u1 ⟨rfl, hb_1⟩
 refine ⟨_, rfl, hb_1, ?_⟩
 clear hs1
 refine al_end (ah_back hok1 hcl1 (fun w9 hs => (hs.fewer 1 rfl)) ?_)
 refine ah_one 11 rfl kr9 (fun hok2 hcl2 => ?_)
 refine al_call Tryz.call86 (.cons rfl (.cons rfl (.cons rfl (.cons rfl .nil)))) rfl rfl (fun w2 hs2 => ?_)
 refine (rflux9_any R M Q C p0 (p1 + 1) _ (hM.below hs2.below) (hC.below hs2.below) hv).mono ?_
 rintro e u2 ⟨rfl, hb_2⟩
 refine ⟨_, rfl, hb_2, ?_⟩
 clear hs2
 refine al_end (ah_back hok2 hcl2 (fun w9 hs => (hs.fewer 2 rfl)) ?_)
 refine ah_t 12 (fun w9 hs => (hs.fewer 2 rfl)) rfl rfl kr9 (q_sub rfl rfl om9) (ah_one 18 rfl kr9 (fun hok3 hcl3 => ?_))
 refine al_call Tryz.call86 (.cons rfl (.cons rfl (.cons rfl (.cons rfl .nil)))) rfl rfl (fun w3 hs3 => ?_)
 refine (rflux9_any R M Q C (p0 + 1) p1 _ (hM.below hs3.below) (hC.below hs3.below) hv).mono ?_
 rintro e u3 ⟨rfl, hb_3⟩
 refine ⟨_, rfl, hb_3, ?_⟩
 clear hs3
 refine al_end (ah_back hok3 hcl3 (fun w9 hs => (hs.fewer 3 rfl)) ?_)
 refine ah_one 24 rfl kr9 (fun hok4 hcl4 => ?_)
 refine al_call Tryz.call86 (.cons rfl (.cons rfl (.cons rfl (.cons rfl .nil)))) rfl rfl (fun w4 hs4 => ?_)
 refine (rflux9_any R M Q C (p0 - 1) p1 _ (hM.below hs4.below) (hC.below hs4.below) hv).mono ?_
 rintro e u4 ⟨rfl, hb_4⟩
 refine ⟨_, rfl, hb_4, ?_⟩
 clear hs4
 refine al_end (ah_back hok4 hcl4 (fun w9 hs => (hs.fewer 4 rfl)) ?_)
 refine ah_t 25 (fun w9 hs => (hs.fewer 4 rfl)) rfl rfl kr9 (q_sub rfl rfl om9) (ah_t 26 (fun w9 hs => (hs.fewer 4 rfl)) rfl rfl kr9 (q_assign rfl) (ah_t 27 (fun w9 hs => (hs.fewer 4 rfl)) rfl rfl kr9 (q_assign rfl) (ah_done kr9 ?_)))
 refine aq_then (ac_ret (ret2 Tryz.results45 rfl rfl (fun w9 hs => ?_)))
 exact ⟨rfl, hs.below⟩
end
section
open Go.RowKit
theorem lost_p {n m : Int} (hn : -1000000 ≤ n ∧ n ≤ 1000000) (hm : 1 ≤ m ∧ m ≤ 1000) : 0 ≤ max n (-n) * m ∧ max n (-n) * m ≤ 1000000000 ∧ max n (-n) * m ≤ max n (-n) * 1000 := by
 have h0 : 0 ≤ max n (-n) ∧ max n (-n) ≤ 1000000 := by omega
 have h1 := mulP_bd (x := max n (-n)) (y := m) (X := 1000000) (Y := 1000) h0 ⟨by omega, by omega⟩
 exact ⟨Int.mul_nonneg h0.1 om9, by omega, Int.mul_le_mul_of_nonneg_left hm.2 h0.1⟩
theorem lost_in {n m : Int} (hn : -1000000 ≤ n ∧ n ≤ 1000000) (hm : 1 ≤ m ∧ m ≤ 1000) : -1000000 ≤ n - lostI n m ∧ n - lostI n m ≤ 1000000 ∧ -1000000 ≤ lostI n m ∧ lostI n m ≤ 1000000 := by
 have := lost_bd (cur := n) hm
 omega
set_option maxRecDepth 100000 in
theorem rsize3_any (n : Int) (w : World) (hn : -1000000 ≤ n ∧ n ≤ 1000000) : Calls Tryz.prog 130 #[(.int .i64 n)] w (Ret (.int .i64 (max n (-n))) w) := by
 refine calls_ax (vs := [(.int .i64 n)]) Tryz.func130 rfl rfl ?_
 refine ac_seq (ac_region ?_)
 refine al_p (q_assign rfl) (al_end (aq_then ?_))
 refine ac_seq (ac_seq (ac_region ?_))
 refine al_p (q_move rfl) (al_p (q_lss rfl rfl) (al_end (aq_then ?_)))
 refine ac_cond rfl (fun h1 => ?_) (fun h1 => ?_)
 ·have g1 := of_decide_eq_true h1
  have e1 : max n (-n) = -n := by omega
  refine ac_seq (ac_region ?_)
  refine al_p (q_move rfl) ?_
  refine al_p (q_neg rfl om9) (al_p (q_assign rfl) (al_end (aq_then ?_)))
  refine ac_ret (aq_thenR (ret1 Tryz.results130 rfl (fun w9 hs => ?_)))
  rw [e1]; exact ⟨rfl, hs.below⟩
 ·have g1 := of_decide_eq_false h1
  have e1 : max n (-n) = n := by omega
  refine ac_skip (aq_then (ac_seq (ac_region ?_)))
  refine al_p (q_move rfl) (al_p (q_assign rfl) (al_end (aq_then ?_)))
  refine ac_ret (ret1 Tryz.results130 rfl (fun w9 hs => ?_))
  rw [e1]; exact ⟨rfl, hs.below⟩
set_option maxRecDepth 100000 in
theorem rlost3_any (n m : Int) (w : World) (hn : -1000000 ≤ n ∧ n ≤ 1000000) (hm : 1 ≤ m ∧ m ≤ 1000) : Calls Tryz.prog 85 #[(.int .i64 n), (.int .i64 m)] w (Ret (.int .i64 (lostI n m)) w) := by
 obtain ⟨p1, p2, p3⟩ := lost_p hn hm
 have he : max n (-n) * m + 1000 - 1 = max n (-n) * m + 999 := by omega
 have hq : 0 ≤ (max n (-n) * m + 999).tdiv 1000 ∧ (max n (-n) * m + 999).tdiv 1000 ≤ max n (-n) := by rw [Int.tdiv_eq_ediv_of_nonneg om9]; omega
 refine calls_ax (vs := [(.int .i64 n), (.int .i64 m)]) Tryz.func85 rfl rfl ?_
 refine ac_seq (ac_region ?_)
 refine al_p (q_assign rfl) (al_end (aq_then ?_))
 refine ac_seq (ac_region ?_)
 refine al_p (q_move rfl) (al_call Tryz.call130 (.cons rfl .nil) rfl rfl (fun w1 hs1 => ?_))
 refine (rsize3_any n _ hn).mono ?_
 rintro e u1 ⟨rfl, hb_1⟩
 refine ⟨_, rfl, hb_1, ?_⟩
 clear hs1
 refine al_p (q_move rfl) ?_
 refine al_p (q_mul rfl rfl om9) ?_
 refine al_p (q_add rfl rfl om9) ?_
 refine al_p (q_quo rfl rfl om9) (al_p (q_assign rfl) (al_end (aq_then ?_)))
 refine ac_seq (ac_seq (ac_region ?_))
 refine al_p (q_move rfl) (al_p (q_move rfl) (al_call Tryz.call130 (.cons rfl .nil) rfl rfl (fun w2 hs2 => ?_)))
 refine (rsize3_any n _ hn).mono ?_
 rintro e u2 ⟨rfl, hb_2⟩
 refine ⟨_, rfl, hb_2, ?_⟩
 clear hs2
 refine al_p (q_gtr rfl rfl) (al_end (aq_then ?_))
 refine ac_cond rfl (fun h1 => ?_) (fun h1 => ?_)
 ·exfalso; have := of_decide_eq_true h1; omega
 ·skip
  refine ac_skip (aq_then (ac_seq (ac_seq (ac_region ?_))))
  refine al_p (q_move rfl) (al_p (q_lss rfl rfl) (al_end (aq_then ?_)))
  refine ac_cond rfl (fun h2 => ?_) (fun h2 => ?_)
  ·refine ac_seq (ac_region ?_)
   refine al_p (q_move rfl) ?_
   refine al_p (q_neg rfl om9) (al_p (q_assign rfl) (al_end (aq_then ?_)))
   refine ac_ret (aq_thenR (ret1 Tryz.results85 rfl (fun w9 hs => ?_)))
   exact ⟨by rw [lostI, if_pos (by have := of_decide_eq_true h2; omega), he], hs.below⟩
  ·refine ac_skip (aq_then (ac_seq (ac_region ?_)))
   refine al_p (q_move rfl) (al_p (q_assign rfl) (al_end (aq_then ?_)))
   refine ac_ret (ret1 Tryz.results85 rfl (fun w9 hs => ?_))
   exact ⟨by rw [lostI, if_neg (by have := of_decide_eq_false h2; omega), he], hs.below⟩
end
end Go.Proofs.YthggkidiidnaoaaGreat
